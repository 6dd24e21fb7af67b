/- The walk of DecimalBack. -/
import Derived.Test.YtdibnolbichbmaaGreatDoorWPlaces4
namespace Go.Proofs.YtdibnolbichbmaaGreatDoor
open Go.RowKit
set_option linter.unusedSimpArgs false
set_option linter.unusedVariables false

set_option maxRecDepth 100000 in
set_option maxHeartbeats 4000000 in
theorem back4_le_none_t (s : ByteArray) {n1 d1 n2 d2 p1 p2 : List UInt8} (w : World) (hs : ¬ (300 : Int) < (s.size : Int)) (e1 : (n1 == n2) = true) (e2 : (d1 == d2) = true) (e3 : (p1 == p2) = true) (hl : (p1.length : Int) ≤ 1000)  (ht : GoodD w)
    (CG : Hid (∀ w, Calls Tryz.prog 16 #[.slice (some ⟨w.heap.size, 0, none⟩) 2 2] (w.alloc (.cells #[.string ⟨n1.toArray⟩, .string ⟨d1.toArray⟩, .string ⟨n2.toArray⟩, .string ⟨d2.toArray⟩] 23)) fun e w' => e = .returned (.bool true) ∧ Below w.heap.size w w'))
    (CP1 : Hid (∀ w, GoodD w → Calls Tryz.prog 14 #[.agg #[.string ⟨n1.toArray⟩, .string ⟨d1.toArray⟩]] w (GiveS w p1)))
    (CA : Hid (∀ w, GoodD w → Calls Tryz.prog 10 #[.string ⟨p1.toArray⟩] w (GiveRE w ((n1, d1), 0))))
    (CS : Hid (∀ w, GoodD w → Calls Tryz.prog 10 #[.string s] w (GiveRE w (([], []), 40))))
    (CP2 : Hid (∀ w, GoodD w → Calls Tryz.prog 14 #[.agg #[.string ⟨n2.toArray⟩, .string ⟨d2.toArray⟩]] w (GiveS w p2))) :
    Calls Tryz.prog 4 #[.agg #[.string ⟨n1.toArray⟩, .string ⟨d1.toArray⟩], .agg #[.string ⟨n2.toArray⟩, .string ⟨d2.toArray⟩], .string s] w (GiveB w true) := by
  have HT := Lib.hid ht; clear ht
  go_enter Tryz.func4, Tryz.ntmps4
  go_wp2_with fail
  have BW := Below.refl w.heap.size w
  have b0 : Below w.heap.size w w := Below.refl _ _
  obtain ⟨U1, hU, bU, s1, rx0, rx1⟩ := lay b0 (.string ⟨n1.toArray⟩) (.string ⟨d1.toArray⟩) 23
  rw [hU]; clear hU
  replace BW := Below.more BW bU
  replace HT := Lib.hid (HT.out.below bU)
  clear bU
  have b1 := Below.refl U1.heap.size U1
  obtain ⟨U2, hU, bU, s2, ry0, ry1⟩ := lay b1 (.string ⟨n2.toArray⟩) (.string ⟨d2.toArray⟩) 23
  rw [hU]; clear hU
  rw [← s1] at ry0 ry1
  clear s2
  replace rx0 := fun v (h : Below U2.heap.size U2 v) => rx0 v (Below.more bU h)
  replace rx1 := fun v (h : Below U2.heap.size U2 v) => rx1 v (Below.more bU h)
  replace BW := Below.more BW bU
  replace HT := Lib.hid (HT.out.below bU)
  clear bU
  have b2 := Below.refl U2.heap.size U2
  clear s1
  go_wp2_with fail
  refine (fixed4_any _ (HT.out.below b2)).mono ?_
  rintro e w3 ⟨rfl, b⟩
  have b3 := Below.more b2 b
  clear b
  go_wp2_with fail
  refine (CG.out _).mono ?_
  rintro e w4 ⟨rfl, b⟩
  have b4 := Below.more b3 b
  clear b
  go_wp2_with fail
  refine (CP1.out _ (HT.out.below b4)).mono ?_
  rintro e w5 ⟨rfl, b⟩
  have b5 := Below.more b4 b
  clear b
  go_wp2_with fail
  refine (CA.out _ (HT.out.below b5)).mono ?_
  rintro e w6 ⟨rfl, b⟩
  have b6 := Below.more b5 b
  clear b
  have ba := fun x => Below.alloc b6 (Below.size b6) x
  go_wp2_with fail
  obtain ⟨U7, hU, bU, s7, ra0, ra1⟩ := lay b6 (.string ⟨n1.toArray⟩) (.string ⟨d1.toArray⟩) 23
  rw [hU]; clear hU
  clear s7
  replace rx0 := fun v (h : Below U7.heap.size U7 v) => rx0 v (Below.more bU h)
  replace rx1 := fun v (h : Below U7.heap.size U7 v) => rx1 v (Below.more bU h)
  replace ry0 := fun v (h : Below U7.heap.size U7 v) => ry0 v (Below.more bU h)
  replace ry1 := fun v (h : Below U7.heap.size U7 v) => ry1 v (Below.more bU h)
  replace BW := Below.more BW bU
  replace HT := Lib.hid (HT.out.below bU)
  clear bU
  have b7 := Below.refl U7.heap.size U7
  clear ba
  refine (CS.out _ (HT.out.below b7)).mono ?_
  rintro e w8 ⟨rfl, b⟩
  have b8 := Below.more b7 b
  clear b
  have ba := fun x => Below.alloc b8 (Below.size b8) x
  go_wp2_with fail
  obtain ⟨U9, hU, bU, s9, rz0, rz1⟩ := lay b8 (.string ⟨#[]⟩) (.string ⟨#[]⟩) 23
  rw [hU]; clear hU
  clear s9
  replace rx0 := fun v (h : Below U9.heap.size U9 v) => rx0 v (Below.more bU h)
  replace rx1 := fun v (h : Below U9.heap.size U9 v) => rx1 v (Below.more bU h)
  replace ry0 := fun v (h : Below U9.heap.size U9 v) => ry0 v (Below.more bU h)
  replace ry1 := fun v (h : Below U9.heap.size U9 v) => ry1 v (Below.more bU h)
  replace ra0 := fun v (h : Below U9.heap.size U9 v) => ra0 v (Below.more bU h)
  replace ra1 := fun v (h : Below U9.heap.size U9 v) => ra1 v (Below.more bU h)
  replace BW := Below.more BW bU
  replace HT := Lib.hid (HT.out.below bU)
  clear bU
  have b9 := Below.refl U9.heap.size U9
  clear ba
  have hB := Lib.hid (Nat.le_refl U9.heap.size)
  first | (go_region_held3 (fun w' => Below U9.heap.size U9 w')
      (first | (exact b9.drew) | (with_reducible assumption) | (exact Below.alloc (by with_reducible assumption) (Nat.le_trans hB.out (Below.size (by with_reducible assumption))) _) | (exact put2 (by with_reducible assumption) (Nat.le_refl _) _ _) | (exact put2 (by with_reducible assumption) hB.out _ _) | (exact put2 (by with_reducible assumption) (Nat.le_trans hB.out (Below.size (by with_reducible assumption))) _ _))
      (first | (go_at_call 14; (with_reducible refine (held (W := U9) hB.out (CP2.out _ (HT.out.below (by assumption))) (by assumption)).mono ?_); rintro e w'' ⟨rfl, hb, hw⟩; (first | (have hz := zc_made0 hb) | (have hz := zc_made hb) | skip); (try have hz := Zc.below (by assumption) hb); (try (have z0 := hz.c0; have z1 := hz.c1; have z2 := hz.f0; have z3 := hz.f1))))) | fail
  rename_i hH
  have b10 := hH
  clear hH hB
  go_wp2_with fail
  go_ret
  exact ⟨ret_bool (by first | rfl | simp [*]), Below.more BW b10⟩
set_option maxRecDepth 100000 in
set_option maxHeartbeats 4000000 in
theorem back4_le_none_f2 (s : ByteArray) {n1 d1 n2 d2 p1 p2 : List UInt8} (w : World) (hs : ¬ (300 : Int) < (s.size : Int)) (e1 : (n1 == n2) = true) (e2 : (d1 == d2) = false) (e3 : (p1 == p2) = false) (hl : (p1.length : Int) ≤ 1000)  (ht : GoodD w)
    (CG : Hid (∀ w, Calls Tryz.prog 16 #[.slice (some ⟨w.heap.size, 0, none⟩) 2 2] (w.alloc (.cells #[.string ⟨n1.toArray⟩, .string ⟨d1.toArray⟩, .string ⟨n2.toArray⟩, .string ⟨d2.toArray⟩] 23)) fun e w' => e = .returned (.bool true) ∧ Below w.heap.size w w'))
    (CP1 : Hid (∀ w, GoodD w → Calls Tryz.prog 14 #[.agg #[.string ⟨n1.toArray⟩, .string ⟨d1.toArray⟩]] w (GiveS w p1)))
    (CA : Hid (∀ w, GoodD w → Calls Tryz.prog 10 #[.string ⟨p1.toArray⟩] w (GiveRE w ((n1, d1), 0))))
    (CS : Hid (∀ w, GoodD w → Calls Tryz.prog 10 #[.string s] w (GiveRE w (([], []), 40))))
    (CP2 : Hid (∀ w, GoodD w → Calls Tryz.prog 14 #[.agg #[.string ⟨n2.toArray⟩, .string ⟨d2.toArray⟩]] w (GiveS w p2))) :
    Calls Tryz.prog 4 #[.agg #[.string ⟨n1.toArray⟩, .string ⟨d1.toArray⟩], .agg #[.string ⟨n2.toArray⟩, .string ⟨d2.toArray⟩], .string s] w (GiveB w true) := by
  have HT := Lib.hid ht; clear ht
  go_enter Tryz.func4, Tryz.ntmps4
  go_wp2_with fail
  have BW := Below.refl w.heap.size w
  have b0 : Below w.heap.size w w := Below.refl _ _
  obtain ⟨U1, hU, bU, s1, rx0, rx1⟩ := lay b0 (.string ⟨n1.toArray⟩) (.string ⟨d1.toArray⟩) 23
  rw [hU]; clear hU
  replace BW := Below.more BW bU
  replace HT := Lib.hid (HT.out.below bU)
  clear bU
  have b1 := Below.refl U1.heap.size U1
  obtain ⟨U2, hU, bU, s2, ry0, ry1⟩ := lay b1 (.string ⟨n2.toArray⟩) (.string ⟨d2.toArray⟩) 23
  rw [hU]; clear hU
  rw [← s1] at ry0 ry1
  clear s2
  replace rx0 := fun v (h : Below U2.heap.size U2 v) => rx0 v (Below.more bU h)
  replace rx1 := fun v (h : Below U2.heap.size U2 v) => rx1 v (Below.more bU h)
  replace BW := Below.more BW bU
  replace HT := Lib.hid (HT.out.below bU)
  clear bU
  have b2 := Below.refl U2.heap.size U2
  clear s1
  go_wp2_with fail
  refine (fixed4_any _ (HT.out.below b2)).mono ?_
  rintro e w3 ⟨rfl, b⟩
  have b3 := Below.more b2 b
  clear b
  go_wp2_with fail
  refine (CG.out _).mono ?_
  rintro e w4 ⟨rfl, b⟩
  have b4 := Below.more b3 b
  clear b
  go_wp2_with fail
  refine (CP1.out _ (HT.out.below b4)).mono ?_
  rintro e w5 ⟨rfl, b⟩
  have b5 := Below.more b4 b
  clear b
  go_wp2_with fail
  refine (CA.out _ (HT.out.below b5)).mono ?_
  rintro e w6 ⟨rfl, b⟩
  have b6 := Below.more b5 b
  clear b
  have ba := fun x => Below.alloc b6 (Below.size b6) x
  go_wp2_with fail
  obtain ⟨U7, hU, bU, s7, ra0, ra1⟩ := lay b6 (.string ⟨n1.toArray⟩) (.string ⟨d1.toArray⟩) 23
  rw [hU]; clear hU
  clear s7
  replace rx0 := fun v (h : Below U7.heap.size U7 v) => rx0 v (Below.more bU h)
  replace rx1 := fun v (h : Below U7.heap.size U7 v) => rx1 v (Below.more bU h)
  replace ry0 := fun v (h : Below U7.heap.size U7 v) => ry0 v (Below.more bU h)
  replace ry1 := fun v (h : Below U7.heap.size U7 v) => ry1 v (Below.more bU h)
  replace BW := Below.more BW bU
  replace HT := Lib.hid (HT.out.below bU)
  clear bU
  have b7 := Below.refl U7.heap.size U7
  clear ba
  refine (CS.out _ (HT.out.below b7)).mono ?_
  rintro e w8 ⟨rfl, b⟩
  have b8 := Below.more b7 b
  clear b
  have ba := fun x => Below.alloc b8 (Below.size b8) x
  go_wp2_with fail
  obtain ⟨U9, hU, bU, s9, rz0, rz1⟩ := lay b8 (.string ⟨#[]⟩) (.string ⟨#[]⟩) 23
  rw [hU]; clear hU
  clear s9
  replace rx0 := fun v (h : Below U9.heap.size U9 v) => rx0 v (Below.more bU h)
  replace rx1 := fun v (h : Below U9.heap.size U9 v) => rx1 v (Below.more bU h)
  replace ry0 := fun v (h : Below U9.heap.size U9 v) => ry0 v (Below.more bU h)
  replace ry1 := fun v (h : Below U9.heap.size U9 v) => ry1 v (Below.more bU h)
  replace ra0 := fun v (h : Below U9.heap.size U9 v) => ra0 v (Below.more bU h)
  replace ra1 := fun v (h : Below U9.heap.size U9 v) => ra1 v (Below.more bU h)
  replace BW := Below.more BW bU
  replace HT := Lib.hid (HT.out.below bU)
  clear bU
  have b9 := Below.refl U9.heap.size U9
  clear ba
  have hB := Lib.hid (Nat.le_refl U9.heap.size)
  first | (go_region_held3 (fun w' => Below U9.heap.size U9 w')
      (first | (exact b9.drew) | (with_reducible assumption) | (exact Below.alloc (by with_reducible assumption) (Nat.le_trans hB.out (Below.size (by with_reducible assumption))) _) | (exact put2 (by with_reducible assumption) (Nat.le_refl _) _ _) | (exact put2 (by with_reducible assumption) hB.out _ _) | (exact put2 (by with_reducible assumption) (Nat.le_trans hB.out (Below.size (by with_reducible assumption))) _ _))
      (first | (go_at_call 14; (with_reducible refine (held (W := U9) hB.out (CP2.out _ (HT.out.below (by assumption))) (by assumption)).mono ?_); rintro e w'' ⟨rfl, hb, hw⟩; (first | (have hz := zc_made0 hb) | (have hz := zc_made hb) | skip); (try have hz := Zc.below (by assumption) hb); (try (have z0 := hz.c0; have z1 := hz.c1; have z2 := hz.f0; have z3 := hz.f1))))) | fail
  rename_i hH
  have b10 := hH
  clear hH hB
  go_wp2_with fail
  go_ret
  exact ⟨ret_bool (by first | rfl | simp [*]), Below.more BW b10⟩
set_option maxRecDepth 100000 in
set_option maxHeartbeats 4000000 in
theorem back4_le_none_f1 (s : ByteArray) {n1 d1 n2 d2 p1 p2 : List UInt8} (w : World) (hs : ¬ (300 : Int) < (s.size : Int)) (e1 : (n1 == n2) = false) (e3 : (p1 == p2) = false) (hl : (p1.length : Int) ≤ 1000)  (ht : GoodD w)
    (CG : Hid (∀ w, Calls Tryz.prog 16 #[.slice (some ⟨w.heap.size, 0, none⟩) 2 2] (w.alloc (.cells #[.string ⟨n1.toArray⟩, .string ⟨d1.toArray⟩, .string ⟨n2.toArray⟩, .string ⟨d2.toArray⟩] 23)) fun e w' => e = .returned (.bool true) ∧ Below w.heap.size w w'))
    (CP1 : Hid (∀ w, GoodD w → Calls Tryz.prog 14 #[.agg #[.string ⟨n1.toArray⟩, .string ⟨d1.toArray⟩]] w (GiveS w p1)))
    (CA : Hid (∀ w, GoodD w → Calls Tryz.prog 10 #[.string ⟨p1.toArray⟩] w (GiveRE w ((n1, d1), 0))))
    (CS : Hid (∀ w, GoodD w → Calls Tryz.prog 10 #[.string s] w (GiveRE w (([], []), 40))))
    (CP2 : Hid (∀ w, GoodD w → Calls Tryz.prog 14 #[.agg #[.string ⟨n2.toArray⟩, .string ⟨d2.toArray⟩]] w (GiveS w p2))) :
    Calls Tryz.prog 4 #[.agg #[.string ⟨n1.toArray⟩, .string ⟨d1.toArray⟩], .agg #[.string ⟨n2.toArray⟩, .string ⟨d2.toArray⟩], .string s] w (GiveB w true) := by
  have HT := Lib.hid ht; clear ht
  go_enter Tryz.func4, Tryz.ntmps4
  go_wp2_with fail
  have BW := Below.refl w.heap.size w
  have b0 : Below w.heap.size w w := Below.refl _ _
  obtain ⟨U1, hU, bU, s1, rx0, rx1⟩ := lay b0 (.string ⟨n1.toArray⟩) (.string ⟨d1.toArray⟩) 23
  rw [hU]; clear hU
  replace BW := Below.more BW bU
  replace HT := Lib.hid (HT.out.below bU)
  clear bU
  have b1 := Below.refl U1.heap.size U1
  obtain ⟨U2, hU, bU, s2, ry0, ry1⟩ := lay b1 (.string ⟨n2.toArray⟩) (.string ⟨d2.toArray⟩) 23
  rw [hU]; clear hU
  rw [← s1] at ry0 ry1
  clear s2
  replace rx0 := fun v (h : Below U2.heap.size U2 v) => rx0 v (Below.more bU h)
  replace rx1 := fun v (h : Below U2.heap.size U2 v) => rx1 v (Below.more bU h)
  replace BW := Below.more BW bU
  replace HT := Lib.hid (HT.out.below bU)
  clear bU
  have b2 := Below.refl U2.heap.size U2
  clear s1
  go_wp2_with fail
  refine (fixed4_any _ (HT.out.below b2)).mono ?_
  rintro e w3 ⟨rfl, b⟩
  have b3 := Below.more b2 b
  clear b
  go_wp2_with fail
  refine (CG.out _).mono ?_
  rintro e w4 ⟨rfl, b⟩
  have b4 := Below.more b3 b
  clear b
  go_wp2_with fail
  refine (CP1.out _ (HT.out.below b4)).mono ?_
  rintro e w5 ⟨rfl, b⟩
  have b5 := Below.more b4 b
  clear b
  go_wp2_with fail
  refine (CA.out _ (HT.out.below b5)).mono ?_
  rintro e w6 ⟨rfl, b⟩
  have b6 := Below.more b5 b
  clear b
  have ba := fun x => Below.alloc b6 (Below.size b6) x
  go_wp2_with fail
  obtain ⟨U7, hU, bU, s7, ra0, ra1⟩ := lay b6 (.string ⟨n1.toArray⟩) (.string ⟨d1.toArray⟩) 23
  rw [hU]; clear hU
  clear s7
  replace rx0 := fun v (h : Below U7.heap.size U7 v) => rx0 v (Below.more bU h)
  replace rx1 := fun v (h : Below U7.heap.size U7 v) => rx1 v (Below.more bU h)
  replace ry0 := fun v (h : Below U7.heap.size U7 v) => ry0 v (Below.more bU h)
  replace ry1 := fun v (h : Below U7.heap.size U7 v) => ry1 v (Below.more bU h)
  replace BW := Below.more BW bU
  replace HT := Lib.hid (HT.out.below bU)
  clear bU
  have b7 := Below.refl U7.heap.size U7
  clear ba
  refine (CS.out _ (HT.out.below b7)).mono ?_
  rintro e w8 ⟨rfl, b⟩
  have b8 := Below.more b7 b
  clear b
  have ba := fun x => Below.alloc b8 (Below.size b8) x
  go_wp2_with fail
  obtain ⟨U9, hU, bU, s9, rz0, rz1⟩ := lay b8 (.string ⟨#[]⟩) (.string ⟨#[]⟩) 23
  rw [hU]; clear hU
  clear s9
  replace rx0 := fun v (h : Below U9.heap.size U9 v) => rx0 v (Below.more bU h)
  replace rx1 := fun v (h : Below U9.heap.size U9 v) => rx1 v (Below.more bU h)
  replace ry0 := fun v (h : Below U9.heap.size U9 v) => ry0 v (Below.more bU h)
  replace ry1 := fun v (h : Below U9.heap.size U9 v) => ry1 v (Below.more bU h)
  replace ra0 := fun v (h : Below U9.heap.size U9 v) => ra0 v (Below.more bU h)
  replace ra1 := fun v (h : Below U9.heap.size U9 v) => ra1 v (Below.more bU h)
  replace BW := Below.more BW bU
  replace HT := Lib.hid (HT.out.below bU)
  clear bU
  have b9 := Below.refl U9.heap.size U9
  clear ba
  have hB := Lib.hid (Nat.le_refl U9.heap.size)
  first | (go_region_held3 (fun w' => Below U9.heap.size U9 w')
      (first | (exact b9.drew) | (with_reducible assumption) | (exact Below.alloc (by with_reducible assumption) (Nat.le_trans hB.out (Below.size (by with_reducible assumption))) _) | (exact put2 (by with_reducible assumption) (Nat.le_refl _) _ _) | (exact put2 (by with_reducible assumption) hB.out _ _) | (exact put2 (by with_reducible assumption) (Nat.le_trans hB.out (Below.size (by with_reducible assumption))) _ _))
      (first | (go_at_call 14; (with_reducible refine (held (W := U9) hB.out (CP2.out _ (HT.out.below (by assumption))) (by assumption)).mono ?_); rintro e w'' ⟨rfl, hb, hw⟩; (first | (have hz := zc_made0 hb) | (have hz := zc_made hb) | skip); (try have hz := Zc.below (by assumption) hb); (try (have z0 := hz.c0; have z1 := hz.c1; have z2 := hz.f0; have z3 := hz.f1))))) | fail
  rename_i hH
  have b10 := hH
  clear hH hB
  go_wp2_with fail
  go_ret
  exact ⟨ret_bool (by first | rfl | simp [*]), Below.more BW b10⟩
set_option maxRecDepth 100000 in
set_option maxHeartbeats 4000000 in
theorem back4_le_long (s : ByteArray) {n1 d1 n2 d2 p1 z1 z2 p3 : List UInt8} (w : World) (hs : ¬ (300 : Int) < (s.size : Int))  (hl : (p1.length : Int) ≤ 1000) (hu : (1000 : Int) < (p3.length : Int)) (ht : GoodD w)
    (CG : Hid (∀ w, Calls Tryz.prog 16 #[.slice (some ⟨w.heap.size, 0, none⟩) 2 2] (w.alloc (.cells #[.string ⟨n1.toArray⟩, .string ⟨d1.toArray⟩, .string ⟨n2.toArray⟩, .string ⟨d2.toArray⟩] 23)) fun e w' => e = .returned (.bool true) ∧ Below w.heap.size w w'))
    (CP1 : Hid (∀ w, GoodD w → Calls Tryz.prog 14 #[.agg #[.string ⟨n1.toArray⟩, .string ⟨d1.toArray⟩]] w (GiveS w p1)))
    (CA : Hid (∀ w, GoodD w → Calls Tryz.prog 10 #[.string ⟨p1.toArray⟩] w (GiveRE w ((n1, d1), 0))))
    (CS : Hid (∀ w, GoodD w → Calls Tryz.prog 10 #[.string s] w (GiveRE w ((z1, z2), 0))))
    (CU : Hid (∀ w, GoodD w → Calls Tryz.prog 14 #[.agg #[.string ⟨z1.toArray⟩, .string ⟨z2.toArray⟩]] w (GiveS w p3))) :
    Calls Tryz.prog 4 #[.agg #[.string ⟨n1.toArray⟩, .string ⟨d1.toArray⟩], .agg #[.string ⟨n2.toArray⟩, .string ⟨d2.toArray⟩], .string s] w (GiveB w true) := by
  have HT := Lib.hid ht; clear ht
  go_enter Tryz.func4, Tryz.ntmps4
  go_wp2_with fail
  have BW := Below.refl w.heap.size w
  have b0 : Below w.heap.size w w := Below.refl _ _
  obtain ⟨U1, hU, bU, s1, rx0, rx1⟩ := lay b0 (.string ⟨n1.toArray⟩) (.string ⟨d1.toArray⟩) 23
  rw [hU]; clear hU
  replace BW := Below.more BW bU
  replace HT := Lib.hid (HT.out.below bU)
  clear bU
  have b1 := Below.refl U1.heap.size U1
  obtain ⟨U2, hU, bU, s2, ry0, ry1⟩ := lay b1 (.string ⟨n2.toArray⟩) (.string ⟨d2.toArray⟩) 23
  rw [hU]; clear hU
  rw [← s1] at ry0 ry1
  clear s2
  replace rx0 := fun v (h : Below U2.heap.size U2 v) => rx0 v (Below.more bU h)
  replace rx1 := fun v (h : Below U2.heap.size U2 v) => rx1 v (Below.more bU h)
  replace BW := Below.more BW bU
  replace HT := Lib.hid (HT.out.below bU)
  clear bU
  have b2 := Below.refl U2.heap.size U2
  clear s1
  go_wp2_with fail
  refine (fixed4_any _ (HT.out.below b2)).mono ?_
  rintro e w3 ⟨rfl, b⟩
  have b3 := Below.more b2 b
  clear b
  go_wp2_with fail
  refine (CG.out _).mono ?_
  rintro e w4 ⟨rfl, b⟩
  have b4 := Below.more b3 b
  clear b
  go_wp2_with fail
  refine (CP1.out _ (HT.out.below b4)).mono ?_
  rintro e w5 ⟨rfl, b⟩
  have b5 := Below.more b4 b
  clear b
  go_wp2_with fail
  refine (CA.out _ (HT.out.below b5)).mono ?_
  rintro e w6 ⟨rfl, b⟩
  have b6 := Below.more b5 b
  clear b
  have ba := fun x => Below.alloc b6 (Below.size b6) x
  go_wp2_with fail
  obtain ⟨U7, hU, bU, s7, ra0, ra1⟩ := lay b6 (.string ⟨n1.toArray⟩) (.string ⟨d1.toArray⟩) 23
  rw [hU]; clear hU
  clear s7
  replace rx0 := fun v (h : Below U7.heap.size U7 v) => rx0 v (Below.more bU h)
  replace rx1 := fun v (h : Below U7.heap.size U7 v) => rx1 v (Below.more bU h)
  replace ry0 := fun v (h : Below U7.heap.size U7 v) => ry0 v (Below.more bU h)
  replace ry1 := fun v (h : Below U7.heap.size U7 v) => ry1 v (Below.more bU h)
  replace BW := Below.more BW bU
  replace HT := Lib.hid (HT.out.below bU)
  clear bU
  have b7 := Below.refl U7.heap.size U7
  clear ba
  refine (CS.out _ (HT.out.below b7)).mono ?_
  rintro e w8 ⟨rfl, b⟩
  have b8 := Below.more b7 b
  clear b
  have ba := fun x => Below.alloc b8 (Below.size b8) x
  go_wp2_with fail
  obtain ⟨U9, hU, bU, s9, rz0, rz1⟩ := lay b8 (.string ⟨z1.toArray⟩) (.string ⟨z2.toArray⟩) 23
  rw [hU]; clear hU
  clear s9
  replace rx0 := fun v (h : Below U9.heap.size U9 v) => rx0 v (Below.more bU h)
  replace rx1 := fun v (h : Below U9.heap.size U9 v) => rx1 v (Below.more bU h)
  replace ry0 := fun v (h : Below U9.heap.size U9 v) => ry0 v (Below.more bU h)
  replace ry1 := fun v (h : Below U9.heap.size U9 v) => ry1 v (Below.more bU h)
  replace ra0 := fun v (h : Below U9.heap.size U9 v) => ra0 v (Below.more bU h)
  replace ra1 := fun v (h : Below U9.heap.size U9 v) => ra1 v (Below.more bU h)
  replace BW := Below.more BW bU
  replace HT := Lib.hid (HT.out.below bU)
  clear bU
  have b9 := Below.refl U9.heap.size U9
  clear ba
  refine (CU.out _ (HT.out.below b9)).mono ?_
  rintro e w10 ⟨rfl, b⟩
  have b10 := Below.more b9 b
  clear b
  go_wp2_with fail
  go_ret
  exact ⟨ret_bool (by first | rfl | simp [*]), Below.more BW b10⟩
set_option maxRecDepth 100000 in
set_option maxHeartbeats 4000000 in
theorem back4_le_short_t (s : ByteArray) {n1 d1 n2 d2 p1 p2 z1 z2 p3 : List UInt8} (w : World) (hs : ¬ (300 : Int) < (s.size : Int)) (e1 : (n1 == n2) = true) (e2 : (d1 == d2) = true) (e3 : (p1 == p2) = true) (hl : (p1.length : Int) ≤ 1000) (hu : ¬ (1000 : Int) < (p3.length : Int)) (ht : GoodD w)
    (CG : Hid (∀ w, Calls Tryz.prog 16 #[.slice (some ⟨w.heap.size, 0, none⟩) 2 2] (w.alloc (.cells #[.string ⟨n1.toArray⟩, .string ⟨d1.toArray⟩, .string ⟨n2.toArray⟩, .string ⟨d2.toArray⟩] 23)) fun e w' => e = .returned (.bool true) ∧ Below w.heap.size w w'))
    (CP1 : Hid (∀ w, GoodD w → Calls Tryz.prog 14 #[.agg #[.string ⟨n1.toArray⟩, .string ⟨d1.toArray⟩]] w (GiveS w p1)))
    (CA : Hid (∀ w, GoodD w → Calls Tryz.prog 10 #[.string ⟨p1.toArray⟩] w (GiveRE w ((n1, d1), 0))))
    (CS : Hid (∀ w, GoodD w → Calls Tryz.prog 10 #[.string s] w (GiveRE w ((z1, z2), 0))))
    (CU : Hid (∀ w, GoodD w → Calls Tryz.prog 14 #[.agg #[.string ⟨z1.toArray⟩, .string ⟨z2.toArray⟩]] w (GiveS w p3)))
    (CW : Hid (∀ w, GoodD w → Calls Tryz.prog 10 #[.string ⟨p3.toArray⟩] w (GiveRE w ((z1, z2), 0))))
    (CP2 : Hid (∀ w, GoodD w → Calls Tryz.prog 14 #[.agg #[.string ⟨n2.toArray⟩, .string ⟨d2.toArray⟩]] w (GiveS w p2))) :
    Calls Tryz.prog 4 #[.agg #[.string ⟨n1.toArray⟩, .string ⟨d1.toArray⟩], .agg #[.string ⟨n2.toArray⟩, .string ⟨d2.toArray⟩], .string s] w (GiveB w true) := by
  have HT := Lib.hid ht; clear ht
  go_enter Tryz.func4, Tryz.ntmps4
  go_wp2_with fail
  have BW := Below.refl w.heap.size w
  have b0 : Below w.heap.size w w := Below.refl _ _
  obtain ⟨U1, hU, bU, s1, rx0, rx1⟩ := lay b0 (.string ⟨n1.toArray⟩) (.string ⟨d1.toArray⟩) 23
  rw [hU]; clear hU
  replace BW := Below.more BW bU
  replace HT := Lib.hid (HT.out.below bU)
  clear bU
  have b1 := Below.refl U1.heap.size U1
  obtain ⟨U2, hU, bU, s2, ry0, ry1⟩ := lay b1 (.string ⟨n2.toArray⟩) (.string ⟨d2.toArray⟩) 23
  rw [hU]; clear hU
  rw [← s1] at ry0 ry1
  clear s2
  replace rx0 := fun v (h : Below U2.heap.size U2 v) => rx0 v (Below.more bU h)
  replace rx1 := fun v (h : Below U2.heap.size U2 v) => rx1 v (Below.more bU h)
  replace BW := Below.more BW bU
  replace HT := Lib.hid (HT.out.below bU)
  clear bU
  have b2 := Below.refl U2.heap.size U2
  clear s1
  go_wp2_with fail
  refine (fixed4_any _ (HT.out.below b2)).mono ?_
  rintro e w3 ⟨rfl, b⟩
  have b3 := Below.more b2 b
  clear b
  go_wp2_with fail
  refine (CG.out _).mono ?_
  rintro e w4 ⟨rfl, b⟩
  have b4 := Below.more b3 b
  clear b
  go_wp2_with fail
  refine (CP1.out _ (HT.out.below b4)).mono ?_
  rintro e w5 ⟨rfl, b⟩
  have b5 := Below.more b4 b
  clear b
  go_wp2_with fail
  refine (CA.out _ (HT.out.below b5)).mono ?_
  rintro e w6 ⟨rfl, b⟩
  have b6 := Below.more b5 b
  clear b
  have ba := fun x => Below.alloc b6 (Below.size b6) x
  go_wp2_with fail
  obtain ⟨U7, hU, bU, s7, ra0, ra1⟩ := lay b6 (.string ⟨n1.toArray⟩) (.string ⟨d1.toArray⟩) 23
  rw [hU]; clear hU
  clear s7
  replace rx0 := fun v (h : Below U7.heap.size U7 v) => rx0 v (Below.more bU h)
  replace rx1 := fun v (h : Below U7.heap.size U7 v) => rx1 v (Below.more bU h)
  replace ry0 := fun v (h : Below U7.heap.size U7 v) => ry0 v (Below.more bU h)
  replace ry1 := fun v (h : Below U7.heap.size U7 v) => ry1 v (Below.more bU h)
  replace BW := Below.more BW bU
  replace HT := Lib.hid (HT.out.below bU)
  clear bU
  have b7 := Below.refl U7.heap.size U7
  clear ba
  refine (CS.out _ (HT.out.below b7)).mono ?_
  rintro e w8 ⟨rfl, b⟩
  have b8 := Below.more b7 b
  clear b
  have ba := fun x => Below.alloc b8 (Below.size b8) x
  go_wp2_with fail
  obtain ⟨U9, hU, bU, s9, rz0, rz1⟩ := lay b8 (.string ⟨z1.toArray⟩) (.string ⟨z2.toArray⟩) 23
  rw [hU]; clear hU
  clear s9
  replace rx0 := fun v (h : Below U9.heap.size U9 v) => rx0 v (Below.more bU h)
  replace rx1 := fun v (h : Below U9.heap.size U9 v) => rx1 v (Below.more bU h)
  replace ry0 := fun v (h : Below U9.heap.size U9 v) => ry0 v (Below.more bU h)
  replace ry1 := fun v (h : Below U9.heap.size U9 v) => ry1 v (Below.more bU h)
  replace ra0 := fun v (h : Below U9.heap.size U9 v) => ra0 v (Below.more bU h)
  replace ra1 := fun v (h : Below U9.heap.size U9 v) => ra1 v (Below.more bU h)
  replace BW := Below.more BW bU
  replace HT := Lib.hid (HT.out.below bU)
  clear bU
  have b9 := Below.refl U9.heap.size U9
  clear ba
  refine (CU.out _ (HT.out.below b9)).mono ?_
  rintro e w10 ⟨rfl, b⟩
  have b10 := Below.more b9 b
  clear b
  go_wp2_with fail
  refine (CW.out _ (HT.out.below b10)).mono ?_
  rintro e w11 ⟨rfl, b⟩
  have b11 := Below.more b10 b
  clear b
  have ba := fun x => Below.alloc b11 (Below.size b11) x
  go_wp2_with fail
  obtain ⟨U12, hU, bU, s12, rv0, rv1⟩ := lay b11 (.string ⟨z1.toArray⟩) (.string ⟨z2.toArray⟩) 23
  rw [hU]; clear hU
  clear s12
  replace rx0 := fun v (h : Below U12.heap.size U12 v) => rx0 v (Below.more bU h)
  replace rx1 := fun v (h : Below U12.heap.size U12 v) => rx1 v (Below.more bU h)
  replace ry0 := fun v (h : Below U12.heap.size U12 v) => ry0 v (Below.more bU h)
  replace ry1 := fun v (h : Below U12.heap.size U12 v) => ry1 v (Below.more bU h)
  replace ra0 := fun v (h : Below U12.heap.size U12 v) => ra0 v (Below.more bU h)
  replace ra1 := fun v (h : Below U12.heap.size U12 v) => ra1 v (Below.more bU h)
  replace rz0 := fun v (h : Below U12.heap.size U12 v) => rz0 v (Below.more bU h)
  replace rz1 := fun v (h : Below U12.heap.size U12 v) => rz1 v (Below.more bU h)
  replace BW := Below.more BW bU
  replace HT := Lib.hid (HT.out.below bU)
  clear bU
  have b12 := Below.refl U12.heap.size U12
  clear ba
  have hB := Lib.hid (Nat.le_refl U12.heap.size)
  first | (go_region_held3 (fun w' => Below U12.heap.size U12 w')
      (first | (exact b12.drew) | (with_reducible assumption) | (exact Below.alloc (by with_reducible assumption) (Nat.le_trans hB.out (Below.size (by with_reducible assumption))) _) | (exact put2 (by with_reducible assumption) (Nat.le_refl _) _ _) | (exact put2 (by with_reducible assumption) hB.out _ _) | (exact put2 (by with_reducible assumption) (Nat.le_trans hB.out (Below.size (by with_reducible assumption))) _ _))
      (first | (go_at_call 14; (with_reducible refine (held (W := U12) hB.out (CP2.out _ (HT.out.below (by assumption))) (by assumption)).mono ?_); rintro e w'' ⟨rfl, hb, hw⟩; (first | (have hz := zc_made0 hb) | (have hz := zc_made hb) | skip); (try have hz := Zc.below (by assumption) hb); (try (have z0 := hz.c0; have z1 := hz.c1; have z2 := hz.f0; have z3 := hz.f1))))) | fail
  rename_i hH
  have b13 := hH
  clear hH hB
  go_wp2_with fail
  go_ret
  exact ⟨ret_bool (by first | rfl | simp [*]), Below.more BW b13⟩
set_option maxRecDepth 100000 in
set_option maxHeartbeats 4000000 in
theorem back4_le_short_f2 (s : ByteArray) {n1 d1 n2 d2 p1 p2 z1 z2 p3 : List UInt8} (w : World) (hs : ¬ (300 : Int) < (s.size : Int)) (e1 : (n1 == n2) = true) (e2 : (d1 == d2) = false) (e3 : (p1 == p2) = false) (hl : (p1.length : Int) ≤ 1000) (hu : ¬ (1000 : Int) < (p3.length : Int)) (ht : GoodD w)
    (CG : Hid (∀ w, Calls Tryz.prog 16 #[.slice (some ⟨w.heap.size, 0, none⟩) 2 2] (w.alloc (.cells #[.string ⟨n1.toArray⟩, .string ⟨d1.toArray⟩, .string ⟨n2.toArray⟩, .string ⟨d2.toArray⟩] 23)) fun e w' => e = .returned (.bool true) ∧ Below w.heap.size w w'))
    (CP1 : Hid (∀ w, GoodD w → Calls Tryz.prog 14 #[.agg #[.string ⟨n1.toArray⟩, .string ⟨d1.toArray⟩]] w (GiveS w p1)))
    (CA : Hid (∀ w, GoodD w → Calls Tryz.prog 10 #[.string ⟨p1.toArray⟩] w (GiveRE w ((n1, d1), 0))))
    (CS : Hid (∀ w, GoodD w → Calls Tryz.prog 10 #[.string s] w (GiveRE w ((z1, z2), 0))))
    (CU : Hid (∀ w, GoodD w → Calls Tryz.prog 14 #[.agg #[.string ⟨z1.toArray⟩, .string ⟨z2.toArray⟩]] w (GiveS w p3)))
    (CW : Hid (∀ w, GoodD w → Calls Tryz.prog 10 #[.string ⟨p3.toArray⟩] w (GiveRE w ((z1, z2), 0))))
    (CP2 : Hid (∀ w, GoodD w → Calls Tryz.prog 14 #[.agg #[.string ⟨n2.toArray⟩, .string ⟨d2.toArray⟩]] w (GiveS w p2))) :
    Calls Tryz.prog 4 #[.agg #[.string ⟨n1.toArray⟩, .string ⟨d1.toArray⟩], .agg #[.string ⟨n2.toArray⟩, .string ⟨d2.toArray⟩], .string s] w (GiveB w true) := by
  have HT := Lib.hid ht; clear ht
  go_enter Tryz.func4, Tryz.ntmps4
  go_wp2_with fail
  have BW := Below.refl w.heap.size w
  have b0 : Below w.heap.size w w := Below.refl _ _
  obtain ⟨U1, hU, bU, s1, rx0, rx1⟩ := lay b0 (.string ⟨n1.toArray⟩) (.string ⟨d1.toArray⟩) 23
  rw [hU]; clear hU
  replace BW := Below.more BW bU
  replace HT := Lib.hid (HT.out.below bU)
  clear bU
  have b1 := Below.refl U1.heap.size U1
  obtain ⟨U2, hU, bU, s2, ry0, ry1⟩ := lay b1 (.string ⟨n2.toArray⟩) (.string ⟨d2.toArray⟩) 23
  rw [hU]; clear hU
  rw [← s1] at ry0 ry1
  clear s2
  replace rx0 := fun v (h : Below U2.heap.size U2 v) => rx0 v (Below.more bU h)
  replace rx1 := fun v (h : Below U2.heap.size U2 v) => rx1 v (Below.more bU h)
  replace BW := Below.more BW bU
  replace HT := Lib.hid (HT.out.below bU)
  clear bU
  have b2 := Below.refl U2.heap.size U2
  clear s1
  go_wp2_with fail
  refine (fixed4_any _ (HT.out.below b2)).mono ?_
  rintro e w3 ⟨rfl, b⟩
  have b3 := Below.more b2 b
  clear b
  go_wp2_with fail
  refine (CG.out _).mono ?_
  rintro e w4 ⟨rfl, b⟩
  have b4 := Below.more b3 b
  clear b
  go_wp2_with fail
  refine (CP1.out _ (HT.out.below b4)).mono ?_
  rintro e w5 ⟨rfl, b⟩
  have b5 := Below.more b4 b
  clear b
  go_wp2_with fail
  refine (CA.out _ (HT.out.below b5)).mono ?_
  rintro e w6 ⟨rfl, b⟩
  have b6 := Below.more b5 b
  clear b
  have ba := fun x => Below.alloc b6 (Below.size b6) x
  go_wp2_with fail
  obtain ⟨U7, hU, bU, s7, ra0, ra1⟩ := lay b6 (.string ⟨n1.toArray⟩) (.string ⟨d1.toArray⟩) 23
  rw [hU]; clear hU
  clear s7
  replace rx0 := fun v (h : Below U7.heap.size U7 v) => rx0 v (Below.more bU h)
  replace rx1 := fun v (h : Below U7.heap.size U7 v) => rx1 v (Below.more bU h)
  replace ry0 := fun v (h : Below U7.heap.size U7 v) => ry0 v (Below.more bU h)
  replace ry1 := fun v (h : Below U7.heap.size U7 v) => ry1 v (Below.more bU h)
  replace BW := Below.more BW bU
  replace HT := Lib.hid (HT.out.below bU)
  clear bU
  have b7 := Below.refl U7.heap.size U7
  clear ba
  refine (CS.out _ (HT.out.below b7)).mono ?_
  rintro e w8 ⟨rfl, b⟩
  have b8 := Below.more b7 b
  clear b
  have ba := fun x => Below.alloc b8 (Below.size b8) x
  go_wp2_with fail
  obtain ⟨U9, hU, bU, s9, rz0, rz1⟩ := lay b8 (.string ⟨z1.toArray⟩) (.string ⟨z2.toArray⟩) 23
  rw [hU]; clear hU
  clear s9
  replace rx0 := fun v (h : Below U9.heap.size U9 v) => rx0 v (Below.more bU h)
  replace rx1 := fun v (h : Below U9.heap.size U9 v) => rx1 v (Below.more bU h)
  replace ry0 := fun v (h : Below U9.heap.size U9 v) => ry0 v (Below.more bU h)
  replace ry1 := fun v (h : Below U9.heap.size U9 v) => ry1 v (Below.more bU h)
  replace ra0 := fun v (h : Below U9.heap.size U9 v) => ra0 v (Below.more bU h)
  replace ra1 := fun v (h : Below U9.heap.size U9 v) => ra1 v (Below.more bU h)
  replace BW := Below.more BW bU
  replace HT := Lib.hid (HT.out.below bU)
  clear bU
  have b9 := Below.refl U9.heap.size U9
  clear ba
  refine (CU.out _ (HT.out.below b9)).mono ?_
  rintro e w10 ⟨rfl, b⟩
  have b10 := Below.more b9 b
  clear b
  go_wp2_with fail
  refine (CW.out _ (HT.out.below b10)).mono ?_
  rintro e w11 ⟨rfl, b⟩
  have b11 := Below.more b10 b
  clear b
  have ba := fun x => Below.alloc b11 (Below.size b11) x
  go_wp2_with fail
  obtain ⟨U12, hU, bU, s12, rv0, rv1⟩ := lay b11 (.string ⟨z1.toArray⟩) (.string ⟨z2.toArray⟩) 23
  rw [hU]; clear hU
  clear s12
  replace rx0 := fun v (h : Below U12.heap.size U12 v) => rx0 v (Below.more bU h)
  replace rx1 := fun v (h : Below U12.heap.size U12 v) => rx1 v (Below.more bU h)
  replace ry0 := fun v (h : Below U12.heap.size U12 v) => ry0 v (Below.more bU h)
  replace ry1 := fun v (h : Below U12.heap.size U12 v) => ry1 v (Below.more bU h)
  replace ra0 := fun v (h : Below U12.heap.size U12 v) => ra0 v (Below.more bU h)
  replace ra1 := fun v (h : Below U12.heap.size U12 v) => ra1 v (Below.more bU h)
  replace rz0 := fun v (h : Below U12.heap.size U12 v) => rz0 v (Below.more bU h)
  replace rz1 := fun v (h : Below U12.heap.size U12 v) => rz1 v (Below.more bU h)
  replace BW := Below.more BW bU
  replace HT := Lib.hid (HT.out.below bU)
  clear bU
  have b12 := Below.refl U12.heap.size U12
  clear ba
  have hB := Lib.hid (Nat.le_refl U12.heap.size)
  first | (go_region_held3 (fun w' => Below U12.heap.size U12 w')
      (first | (exact b12.drew) | (with_reducible assumption) | (exact Below.alloc (by with_reducible assumption) (Nat.le_trans hB.out (Below.size (by with_reducible assumption))) _) | (exact put2 (by with_reducible assumption) (Nat.le_refl _) _ _) | (exact put2 (by with_reducible assumption) hB.out _ _) | (exact put2 (by with_reducible assumption) (Nat.le_trans hB.out (Below.size (by with_reducible assumption))) _ _))
      (first | (go_at_call 14; (with_reducible refine (held (W := U12) hB.out (CP2.out _ (HT.out.below (by assumption))) (by assumption)).mono ?_); rintro e w'' ⟨rfl, hb, hw⟩; (first | (have hz := zc_made0 hb) | (have hz := zc_made hb) | skip); (try have hz := Zc.below (by assumption) hb); (try (have z0 := hz.c0; have z1 := hz.c1; have z2 := hz.f0; have z3 := hz.f1))))) | fail
  rename_i hH
  have b13 := hH
  clear hH hB
  go_wp2_with fail
  go_ret
  exact ⟨ret_bool (by first | rfl | simp [*]), Below.more BW b13⟩
set_option maxRecDepth 100000 in
set_option maxHeartbeats 4000000 in
theorem back4_le_short_f1 (s : ByteArray) {n1 d1 n2 d2 p1 p2 z1 z2 p3 : List UInt8} (w : World) (hs : ¬ (300 : Int) < (s.size : Int)) (e1 : (n1 == n2) = false) (e3 : (p1 == p2) = false) (hl : (p1.length : Int) ≤ 1000) (hu : ¬ (1000 : Int) < (p3.length : Int)) (ht : GoodD w)
    (CG : Hid (∀ w, Calls Tryz.prog 16 #[.slice (some ⟨w.heap.size, 0, none⟩) 2 2] (w.alloc (.cells #[.string ⟨n1.toArray⟩, .string ⟨d1.toArray⟩, .string ⟨n2.toArray⟩, .string ⟨d2.toArray⟩] 23)) fun e w' => e = .returned (.bool true) ∧ Below w.heap.size w w'))
    (CP1 : Hid (∀ w, GoodD w → Calls Tryz.prog 14 #[.agg #[.string ⟨n1.toArray⟩, .string ⟨d1.toArray⟩]] w (GiveS w p1)))
    (CA : Hid (∀ w, GoodD w → Calls Tryz.prog 10 #[.string ⟨p1.toArray⟩] w (GiveRE w ((n1, d1), 0))))
    (CS : Hid (∀ w, GoodD w → Calls Tryz.prog 10 #[.string s] w (GiveRE w ((z1, z2), 0))))
    (CU : Hid (∀ w, GoodD w → Calls Tryz.prog 14 #[.agg #[.string ⟨z1.toArray⟩, .string ⟨z2.toArray⟩]] w (GiveS w p3)))
    (CW : Hid (∀ w, GoodD w → Calls Tryz.prog 10 #[.string ⟨p3.toArray⟩] w (GiveRE w ((z1, z2), 0))))
    (CP2 : Hid (∀ w, GoodD w → Calls Tryz.prog 14 #[.agg #[.string ⟨n2.toArray⟩, .string ⟨d2.toArray⟩]] w (GiveS w p2))) :
    Calls Tryz.prog 4 #[.agg #[.string ⟨n1.toArray⟩, .string ⟨d1.toArray⟩], .agg #[.string ⟨n2.toArray⟩, .string ⟨d2.toArray⟩], .string s] w (GiveB w true) := by
  have HT := Lib.hid ht; clear ht
  go_enter Tryz.func4, Tryz.ntmps4
  go_wp2_with fail
  have BW := Below.refl w.heap.size w
  have b0 : Below w.heap.size w w := Below.refl _ _
  obtain ⟨U1, hU, bU, s1, rx0, rx1⟩ := lay b0 (.string ⟨n1.toArray⟩) (.string ⟨d1.toArray⟩) 23
  rw [hU]; clear hU
  replace BW := Below.more BW bU
  replace HT := Lib.hid (HT.out.below bU)
  clear bU
  have b1 := Below.refl U1.heap.size U1
  obtain ⟨U2, hU, bU, s2, ry0, ry1⟩ := lay b1 (.string ⟨n2.toArray⟩) (.string ⟨d2.toArray⟩) 23
  rw [hU]; clear hU
  rw [← s1] at ry0 ry1
  clear s2
  replace rx0 := fun v (h : Below U2.heap.size U2 v) => rx0 v (Below.more bU h)
  replace rx1 := fun v (h : Below U2.heap.size U2 v) => rx1 v (Below.more bU h)
  replace BW := Below.more BW bU
  replace HT := Lib.hid (HT.out.below bU)
  clear bU
  have b2 := Below.refl U2.heap.size U2
  clear s1
  go_wp2_with fail
  refine (fixed4_any _ (HT.out.below b2)).mono ?_
  rintro e w3 ⟨rfl, b⟩
  have b3 := Below.more b2 b
  clear b
  go_wp2_with fail
  refine (CG.out _).mono ?_
  rintro e w4 ⟨rfl, b⟩
  have b4 := Below.more b3 b
  clear b
  go_wp2_with fail
  refine (CP1.out _ (HT.out.below b4)).mono ?_
  rintro e w5 ⟨rfl, b⟩
  have b5 := Below.more b4 b
  clear b
  go_wp2_with fail
  refine (CA.out _ (HT.out.below b5)).mono ?_
  rintro e w6 ⟨rfl, b⟩
  have b6 := Below.more b5 b
  clear b
  have ba := fun x => Below.alloc b6 (Below.size b6) x
  go_wp2_with fail
  obtain ⟨U7, hU, bU, s7, ra0, ra1⟩ := lay b6 (.string ⟨n1.toArray⟩) (.string ⟨d1.toArray⟩) 23
  rw [hU]; clear hU
  clear s7
  replace rx0 := fun v (h : Below U7.heap.size U7 v) => rx0 v (Below.more bU h)
  replace rx1 := fun v (h : Below U7.heap.size U7 v) => rx1 v (Below.more bU h)
  replace ry0 := fun v (h : Below U7.heap.size U7 v) => ry0 v (Below.more bU h)
  replace ry1 := fun v (h : Below U7.heap.size U7 v) => ry1 v (Below.more bU h)
  replace BW := Below.more BW bU
  replace HT := Lib.hid (HT.out.below bU)
  clear bU
  have b7 := Below.refl U7.heap.size U7
  clear ba
  refine (CS.out _ (HT.out.below b7)).mono ?_
  rintro e w8 ⟨rfl, b⟩
  have b8 := Below.more b7 b
  clear b
  have ba := fun x => Below.alloc b8 (Below.size b8) x
  go_wp2_with fail
  obtain ⟨U9, hU, bU, s9, rz0, rz1⟩ := lay b8 (.string ⟨z1.toArray⟩) (.string ⟨z2.toArray⟩) 23
  rw [hU]; clear hU
  clear s9
  replace rx0 := fun v (h : Below U9.heap.size U9 v) => rx0 v (Below.more bU h)
  replace rx1 := fun v (h : Below U9.heap.size U9 v) => rx1 v (Below.more bU h)
  replace ry0 := fun v (h : Below U9.heap.size U9 v) => ry0 v (Below.more bU h)
  replace ry1 := fun v (h : Below U9.heap.size U9 v) => ry1 v (Below.more bU h)
  replace ra0 := fun v (h : Below U9.heap.size U9 v) => ra0 v (Below.more bU h)
  replace ra1 := fun v (h : Below U9.heap.size U9 v) => ra1 v (Below.more bU h)
  replace BW := Below.more BW bU
  replace HT := Lib.hid (HT.out.below bU)
  clear bU
  have b9 := Below.refl U9.heap.size U9
  clear ba
  refine (CU.out _ (HT.out.below b9)).mono ?_
  rintro e w10 ⟨rfl, b⟩
  have b10 := Below.more b9 b
  clear b
  go_wp2_with fail
  refine (CW.out _ (HT.out.below b10)).mono ?_
  rintro e w11 ⟨rfl, b⟩
  have b11 := Below.more b10 b
  clear b
  have ba := fun x => Below.alloc b11 (Below.size b11) x
  go_wp2_with fail
  obtain ⟨U12, hU, bU, s12, rv0, rv1⟩ := lay b11 (.string ⟨z1.toArray⟩) (.string ⟨z2.toArray⟩) 23
  rw [hU]; clear hU
  clear s12
  replace rx0 := fun v (h : Below U12.heap.size U12 v) => rx0 v (Below.more bU h)
  replace rx1 := fun v (h : Below U12.heap.size U12 v) => rx1 v (Below.more bU h)
  replace ry0 := fun v (h : Below U12.heap.size U12 v) => ry0 v (Below.more bU h)
  replace ry1 := fun v (h : Below U12.heap.size U12 v) => ry1 v (Below.more bU h)
  replace ra0 := fun v (h : Below U12.heap.size U12 v) => ra0 v (Below.more bU h)
  replace ra1 := fun v (h : Below U12.heap.size U12 v) => ra1 v (Below.more bU h)
  replace rz0 := fun v (h : Below U12.heap.size U12 v) => rz0 v (Below.more bU h)
  replace rz1 := fun v (h : Below U12.heap.size U12 v) => rz1 v (Below.more bU h)
  replace BW := Below.more BW bU
  replace HT := Lib.hid (HT.out.below bU)
  clear bU
  have b12 := Below.refl U12.heap.size U12
  clear ba
  have hB := Lib.hid (Nat.le_refl U12.heap.size)
  first | (go_region_held3 (fun w' => Below U12.heap.size U12 w')
      (first | (exact b12.drew) | (with_reducible assumption) | (exact Below.alloc (by with_reducible assumption) (Nat.le_trans hB.out (Below.size (by with_reducible assumption))) _) | (exact put2 (by with_reducible assumption) (Nat.le_refl _) _ _) | (exact put2 (by with_reducible assumption) hB.out _ _) | (exact put2 (by with_reducible assumption) (Nat.le_trans hB.out (Below.size (by with_reducible assumption))) _ _))
      (first | (go_at_call 14; (with_reducible refine (held (W := U12) hB.out (CP2.out _ (HT.out.below (by assumption))) (by assumption)).mono ?_); rintro e w'' ⟨rfl, hb, hw⟩; (first | (have hz := zc_made0 hb) | (have hz := zc_made hb) | skip); (try have hz := Zc.below (by assumption) hb); (try (have z0 := hz.c0; have z1 := hz.c1; have z2 := hz.f0; have z3 := hz.f1))))) | fail
  rename_i hH
  have b13 := hH
  clear hH hB
  go_wp2_with fail
  go_ret
  exact ⟨ret_bool (by first | rfl | simp [*]), Below.more BW b13⟩
set_option maxRecDepth 100000 in
set_option maxHeartbeats 4000000 in
theorem back4_gt_none_t (s : ByteArray) {n1 d1 n2 d2 p1 p2 : List UInt8} (w : World) (hs : ¬ (300 : Int) < (s.size : Int)) (e1 : (n1 == n2) = true) (e2 : (d1 == d2) = true) (e3 : (p1 == p2) = true) (hl : ¬ (p1.length : Int) ≤ 1000)  (ht : GoodD w)
    (CG : Hid (∀ w, Calls Tryz.prog 16 #[.slice (some ⟨w.heap.size, 0, none⟩) 2 2] (w.alloc (.cells #[.string ⟨n1.toArray⟩, .string ⟨d1.toArray⟩, .string ⟨n2.toArray⟩, .string ⟨d2.toArray⟩] 23)) fun e w' => e = .returned (.bool true) ∧ Below w.heap.size w w'))
    (CP1 : Hid (∀ w, GoodD w → Calls Tryz.prog 14 #[.agg #[.string ⟨n1.toArray⟩, .string ⟨d1.toArray⟩]] w (GiveS w p1)))
    (CS : Hid (∀ w, GoodD w → Calls Tryz.prog 10 #[.string s] w (GiveRE w (([], []), 40))))
    (CP2 : Hid (∀ w, GoodD w → Calls Tryz.prog 14 #[.agg #[.string ⟨n2.toArray⟩, .string ⟨d2.toArray⟩]] w (GiveS w p2))) :
    Calls Tryz.prog 4 #[.agg #[.string ⟨n1.toArray⟩, .string ⟨d1.toArray⟩], .agg #[.string ⟨n2.toArray⟩, .string ⟨d2.toArray⟩], .string s] w (GiveB w true) := by
  have HT := Lib.hid ht; clear ht
  go_enter Tryz.func4, Tryz.ntmps4
  go_wp2_with fail
  have BW := Below.refl w.heap.size w
  have b0 : Below w.heap.size w w := Below.refl _ _
  obtain ⟨U1, hU, bU, s1, rx0, rx1⟩ := lay b0 (.string ⟨n1.toArray⟩) (.string ⟨d1.toArray⟩) 23
  rw [hU]; clear hU
  replace BW := Below.more BW bU
  replace HT := Lib.hid (HT.out.below bU)
  clear bU
  have b1 := Below.refl U1.heap.size U1
  obtain ⟨U2, hU, bU, s2, ry0, ry1⟩ := lay b1 (.string ⟨n2.toArray⟩) (.string ⟨d2.toArray⟩) 23
  rw [hU]; clear hU
  rw [← s1] at ry0 ry1
  clear s2
  replace rx0 := fun v (h : Below U2.heap.size U2 v) => rx0 v (Below.more bU h)
  replace rx1 := fun v (h : Below U2.heap.size U2 v) => rx1 v (Below.more bU h)
  replace BW := Below.more BW bU
  replace HT := Lib.hid (HT.out.below bU)
  clear bU
  have b2 := Below.refl U2.heap.size U2
  clear s1
  go_wp2_with fail
  refine (fixed4_any _ (HT.out.below b2)).mono ?_
  rintro e w3 ⟨rfl, b⟩
  have b3 := Below.more b2 b
  clear b
  go_wp2_with fail
  refine (CG.out _).mono ?_
  rintro e w4 ⟨rfl, b⟩
  have b4 := Below.more b3 b
  clear b
  go_wp2_with fail
  refine (CP1.out _ (HT.out.below b4)).mono ?_
  rintro e w5 ⟨rfl, b⟩
  have b5 := Below.more b4 b
  clear b
  go_wp2_with fail
  refine (CS.out _ (HT.out.below b5)).mono ?_
  rintro e w6 ⟨rfl, b⟩
  have b6 := Below.more b5 b
  clear b
  have ba := fun x => Below.alloc b6 (Below.size b6) x
  go_wp2_with fail
  obtain ⟨U7, hU, bU, s7, rz0, rz1⟩ := lay b6 (.string ⟨#[]⟩) (.string ⟨#[]⟩) 23
  rw [hU]; clear hU
  clear s7
  replace rx0 := fun v (h : Below U7.heap.size U7 v) => rx0 v (Below.more bU h)
  replace rx1 := fun v (h : Below U7.heap.size U7 v) => rx1 v (Below.more bU h)
  replace ry0 := fun v (h : Below U7.heap.size U7 v) => ry0 v (Below.more bU h)
  replace ry1 := fun v (h : Below U7.heap.size U7 v) => ry1 v (Below.more bU h)
  replace BW := Below.more BW bU
  replace HT := Lib.hid (HT.out.below bU)
  clear bU
  have b7 := Below.refl U7.heap.size U7
  clear ba
  have hB := Lib.hid (Nat.le_refl U7.heap.size)
  first | (go_region_held3 (fun w' => Below U7.heap.size U7 w')
      (first | (exact b7.drew) | (with_reducible assumption) | (exact Below.alloc (by with_reducible assumption) (Nat.le_trans hB.out (Below.size (by with_reducible assumption))) _) | (exact put2 (by with_reducible assumption) (Nat.le_refl _) _ _) | (exact put2 (by with_reducible assumption) hB.out _ _) | (exact put2 (by with_reducible assumption) (Nat.le_trans hB.out (Below.size (by with_reducible assumption))) _ _))
      (first | (go_at_call 14; (with_reducible refine (held (W := U7) hB.out (CP2.out _ (HT.out.below (by assumption))) (by assumption)).mono ?_); rintro e w'' ⟨rfl, hb, hw⟩; (first | (have hz := zc_made0 hb) | (have hz := zc_made hb) | skip); (try have hz := Zc.below (by assumption) hb); (try (have z0 := hz.c0; have z1 := hz.c1; have z2 := hz.f0; have z3 := hz.f1))))) | fail
  rename_i hH
  have b8 := hH
  clear hH hB
  go_wp2_with fail
  go_ret
  exact ⟨ret_bool (by first | rfl | simp [*]), Below.more BW b8⟩
set_option maxRecDepth 100000 in
set_option maxHeartbeats 4000000 in
theorem back4_gt_none_f2 (s : ByteArray) {n1 d1 n2 d2 p1 p2 : List UInt8} (w : World) (hs : ¬ (300 : Int) < (s.size : Int)) (e1 : (n1 == n2) = true) (e2 : (d1 == d2) = false) (e3 : (p1 == p2) = false) (hl : ¬ (p1.length : Int) ≤ 1000)  (ht : GoodD w)
    (CG : Hid (∀ w, Calls Tryz.prog 16 #[.slice (some ⟨w.heap.size, 0, none⟩) 2 2] (w.alloc (.cells #[.string ⟨n1.toArray⟩, .string ⟨d1.toArray⟩, .string ⟨n2.toArray⟩, .string ⟨d2.toArray⟩] 23)) fun e w' => e = .returned (.bool true) ∧ Below w.heap.size w w'))
    (CP1 : Hid (∀ w, GoodD w → Calls Tryz.prog 14 #[.agg #[.string ⟨n1.toArray⟩, .string ⟨d1.toArray⟩]] w (GiveS w p1)))
    (CS : Hid (∀ w, GoodD w → Calls Tryz.prog 10 #[.string s] w (GiveRE w (([], []), 40))))
    (CP2 : Hid (∀ w, GoodD w → Calls Tryz.prog 14 #[.agg #[.string ⟨n2.toArray⟩, .string ⟨d2.toArray⟩]] w (GiveS w p2))) :
    Calls Tryz.prog 4 #[.agg #[.string ⟨n1.toArray⟩, .string ⟨d1.toArray⟩], .agg #[.string ⟨n2.toArray⟩, .string ⟨d2.toArray⟩], .string s] w (GiveB w true) := by
  have HT := Lib.hid ht; clear ht
  go_enter Tryz.func4, Tryz.ntmps4
  go_wp2_with fail
  have BW := Below.refl w.heap.size w
  have b0 : Below w.heap.size w w := Below.refl _ _
  obtain ⟨U1, hU, bU, s1, rx0, rx1⟩ := lay b0 (.string ⟨n1.toArray⟩) (.string ⟨d1.toArray⟩) 23
  rw [hU]; clear hU
  replace BW := Below.more BW bU
  replace HT := Lib.hid (HT.out.below bU)
  clear bU
  have b1 := Below.refl U1.heap.size U1
  obtain ⟨U2, hU, bU, s2, ry0, ry1⟩ := lay b1 (.string ⟨n2.toArray⟩) (.string ⟨d2.toArray⟩) 23
  rw [hU]; clear hU
  rw [← s1] at ry0 ry1
  clear s2
  replace rx0 := fun v (h : Below U2.heap.size U2 v) => rx0 v (Below.more bU h)
  replace rx1 := fun v (h : Below U2.heap.size U2 v) => rx1 v (Below.more bU h)
  replace BW := Below.more BW bU
  replace HT := Lib.hid (HT.out.below bU)
  clear bU
  have b2 := Below.refl U2.heap.size U2
  clear s1
  go_wp2_with fail
  refine (fixed4_any _ (HT.out.below b2)).mono ?_
  rintro e w3 ⟨rfl, b⟩
  have b3 := Below.more b2 b
  clear b
  go_wp2_with fail
  refine (CG.out _).mono ?_
  rintro e w4 ⟨rfl, b⟩
  have b4 := Below.more b3 b
  clear b
  go_wp2_with fail
  refine (CP1.out _ (HT.out.below b4)).mono ?_
  rintro e w5 ⟨rfl, b⟩
  have b5 := Below.more b4 b
  clear b
  go_wp2_with fail
  refine (CS.out _ (HT.out.below b5)).mono ?_
  rintro e w6 ⟨rfl, b⟩
  have b6 := Below.more b5 b
  clear b
  have ba := fun x => Below.alloc b6 (Below.size b6) x
  go_wp2_with fail
  obtain ⟨U7, hU, bU, s7, rz0, rz1⟩ := lay b6 (.string ⟨#[]⟩) (.string ⟨#[]⟩) 23
  rw [hU]; clear hU
  clear s7
  replace rx0 := fun v (h : Below U7.heap.size U7 v) => rx0 v (Below.more bU h)
  replace rx1 := fun v (h : Below U7.heap.size U7 v) => rx1 v (Below.more bU h)
  replace ry0 := fun v (h : Below U7.heap.size U7 v) => ry0 v (Below.more bU h)
  replace ry1 := fun v (h : Below U7.heap.size U7 v) => ry1 v (Below.more bU h)
  replace BW := Below.more BW bU
  replace HT := Lib.hid (HT.out.below bU)
  clear bU
  have b7 := Below.refl U7.heap.size U7
  clear ba
  have hB := Lib.hid (Nat.le_refl U7.heap.size)
  first | (go_region_held3 (fun w' => Below U7.heap.size U7 w')
      (first | (exact b7.drew) | (with_reducible assumption) | (exact Below.alloc (by with_reducible assumption) (Nat.le_trans hB.out (Below.size (by with_reducible assumption))) _) | (exact put2 (by with_reducible assumption) (Nat.le_refl _) _ _) | (exact put2 (by with_reducible assumption) hB.out _ _) | (exact put2 (by with_reducible assumption) (Nat.le_trans hB.out (Below.size (by with_reducible assumption))) _ _))
      (first | (go_at_call 14; (with_reducible refine (held (W := U7) hB.out (CP2.out _ (HT.out.below (by assumption))) (by assumption)).mono ?_); rintro e w'' ⟨rfl, hb, hw⟩; (first | (have hz := zc_made0 hb) | (have hz := zc_made hb) | skip); (try have hz := Zc.below (by assumption) hb); (try (have z0 := hz.c0; have z1 := hz.c1; have z2 := hz.f0; have z3 := hz.f1))))) | fail
  rename_i hH
  have b8 := hH
  clear hH hB
  go_wp2_with fail
  go_ret
  exact ⟨ret_bool (by first | rfl | simp [*]), Below.more BW b8⟩
set_option maxRecDepth 100000 in
set_option maxHeartbeats 4000000 in
theorem back4_gt_none_f1 (s : ByteArray) {n1 d1 n2 d2 p1 p2 : List UInt8} (w : World) (hs : ¬ (300 : Int) < (s.size : Int)) (e1 : (n1 == n2) = false) (e3 : (p1 == p2) = false) (hl : ¬ (p1.length : Int) ≤ 1000)  (ht : GoodD w)
    (CG : Hid (∀ w, Calls Tryz.prog 16 #[.slice (some ⟨w.heap.size, 0, none⟩) 2 2] (w.alloc (.cells #[.string ⟨n1.toArray⟩, .string ⟨d1.toArray⟩, .string ⟨n2.toArray⟩, .string ⟨d2.toArray⟩] 23)) fun e w' => e = .returned (.bool true) ∧ Below w.heap.size w w'))
    (CP1 : Hid (∀ w, GoodD w → Calls Tryz.prog 14 #[.agg #[.string ⟨n1.toArray⟩, .string ⟨d1.toArray⟩]] w (GiveS w p1)))
    (CS : Hid (∀ w, GoodD w → Calls Tryz.prog 10 #[.string s] w (GiveRE w (([], []), 40))))
    (CP2 : Hid (∀ w, GoodD w → Calls Tryz.prog 14 #[.agg #[.string ⟨n2.toArray⟩, .string ⟨d2.toArray⟩]] w (GiveS w p2))) :
    Calls Tryz.prog 4 #[.agg #[.string ⟨n1.toArray⟩, .string ⟨d1.toArray⟩], .agg #[.string ⟨n2.toArray⟩, .string ⟨d2.toArray⟩], .string s] w (GiveB w true) := by
  have HT := Lib.hid ht; clear ht
  go_enter Tryz.func4, Tryz.ntmps4
  go_wp2_with fail
  have BW := Below.refl w.heap.size w
  have b0 : Below w.heap.size w w := Below.refl _ _
  obtain ⟨U1, hU, bU, s1, rx0, rx1⟩ := lay b0 (.string ⟨n1.toArray⟩) (.string ⟨d1.toArray⟩) 23
  rw [hU]; clear hU
  replace BW := Below.more BW bU
  replace HT := Lib.hid (HT.out.below bU)
  clear bU
  have b1 := Below.refl U1.heap.size U1
  obtain ⟨U2, hU, bU, s2, ry0, ry1⟩ := lay b1 (.string ⟨n2.toArray⟩) (.string ⟨d2.toArray⟩) 23
  rw [hU]; clear hU
  rw [← s1] at ry0 ry1
  clear s2
  replace rx0 := fun v (h : Below U2.heap.size U2 v) => rx0 v (Below.more bU h)
  replace rx1 := fun v (h : Below U2.heap.size U2 v) => rx1 v (Below.more bU h)
  replace BW := Below.more BW bU
  replace HT := Lib.hid (HT.out.below bU)
  clear bU
  have b2 := Below.refl U2.heap.size U2
  clear s1
  go_wp2_with fail
  refine (fixed4_any _ (HT.out.below b2)).mono ?_
  rintro e w3 ⟨rfl, b⟩
  have b3 := Below.more b2 b
  clear b
  go_wp2_with fail
  refine (CG.out _).mono ?_
  rintro e w4 ⟨rfl, b⟩
  have b4 := Below.more b3 b
  clear b
  go_wp2_with fail
  refine (CP1.out _ (HT.out.below b4)).mono ?_
  rintro e w5 ⟨rfl, b⟩
  have b5 := Below.more b4 b
  clear b
  go_wp2_with fail
  refine (CS.out _ (HT.out.below b5)).mono ?_
  rintro e w6 ⟨rfl, b⟩
  have b6 := Below.more b5 b
  clear b
  have ba := fun x => Below.alloc b6 (Below.size b6) x
  go_wp2_with fail
  obtain ⟨U7, hU, bU, s7, rz0, rz1⟩ := lay b6 (.string ⟨#[]⟩) (.string ⟨#[]⟩) 23
  rw [hU]; clear hU
  clear s7
  replace rx0 := fun v (h : Below U7.heap.size U7 v) => rx0 v (Below.more bU h)
  replace rx1 := fun v (h : Below U7.heap.size U7 v) => rx1 v (Below.more bU h)
  replace ry0 := fun v (h : Below U7.heap.size U7 v) => ry0 v (Below.more bU h)
  replace ry1 := fun v (h : Below U7.heap.size U7 v) => ry1 v (Below.more bU h)
  replace BW := Below.more BW bU
  replace HT := Lib.hid (HT.out.below bU)
  clear bU
  have b7 := Below.refl U7.heap.size U7
  clear ba
  have hB := Lib.hid (Nat.le_refl U7.heap.size)
  first | (go_region_held3 (fun w' => Below U7.heap.size U7 w')
      (first | (exact b7.drew) | (with_reducible assumption) | (exact Below.alloc (by with_reducible assumption) (Nat.le_trans hB.out (Below.size (by with_reducible assumption))) _) | (exact put2 (by with_reducible assumption) (Nat.le_refl _) _ _) | (exact put2 (by with_reducible assumption) hB.out _ _) | (exact put2 (by with_reducible assumption) (Nat.le_trans hB.out (Below.size (by with_reducible assumption))) _ _))
      (first | (go_at_call 14; (with_reducible refine (held (W := U7) hB.out (CP2.out _ (HT.out.below (by assumption))) (by assumption)).mono ?_); rintro e w'' ⟨rfl, hb, hw⟩; (first | (have hz := zc_made0 hb) | (have hz := zc_made hb) | skip); (try have hz := Zc.below (by assumption) hb); (try (have z0 := hz.c0; have z1 := hz.c1; have z2 := hz.f0; have z3 := hz.f1))))) | fail
  rename_i hH
  have b8 := hH
  clear hH hB
  go_wp2_with fail
  go_ret
  exact ⟨ret_bool (by first | rfl | simp [*]), Below.more BW b8⟩
set_option maxRecDepth 100000 in
set_option maxHeartbeats 4000000 in
theorem back4_gt_long (s : ByteArray) {n1 d1 n2 d2 p1 z1 z2 p3 : List UInt8} (w : World) (hs : ¬ (300 : Int) < (s.size : Int))  (hl : ¬ (p1.length : Int) ≤ 1000) (hu : (1000 : Int) < (p3.length : Int)) (ht : GoodD w)
    (CG : Hid (∀ w, Calls Tryz.prog 16 #[.slice (some ⟨w.heap.size, 0, none⟩) 2 2] (w.alloc (.cells #[.string ⟨n1.toArray⟩, .string ⟨d1.toArray⟩, .string ⟨n2.toArray⟩, .string ⟨d2.toArray⟩] 23)) fun e w' => e = .returned (.bool true) ∧ Below w.heap.size w w'))
    (CP1 : Hid (∀ w, GoodD w → Calls Tryz.prog 14 #[.agg #[.string ⟨n1.toArray⟩, .string ⟨d1.toArray⟩]] w (GiveS w p1)))
    (CS : Hid (∀ w, GoodD w → Calls Tryz.prog 10 #[.string s] w (GiveRE w ((z1, z2), 0))))
    (CU : Hid (∀ w, GoodD w → Calls Tryz.prog 14 #[.agg #[.string ⟨z1.toArray⟩, .string ⟨z2.toArray⟩]] w (GiveS w p3))) :
    Calls Tryz.prog 4 #[.agg #[.string ⟨n1.toArray⟩, .string ⟨d1.toArray⟩], .agg #[.string ⟨n2.toArray⟩, .string ⟨d2.toArray⟩], .string s] w (GiveB w true) := by
  have HT := Lib.hid ht; clear ht
  go_enter Tryz.func4, Tryz.ntmps4
  go_wp2_with fail
  have BW := Below.refl w.heap.size w
  have b0 : Below w.heap.size w w := Below.refl _ _
  obtain ⟨U1, hU, bU, s1, rx0, rx1⟩ := lay b0 (.string ⟨n1.toArray⟩) (.string ⟨d1.toArray⟩) 23
  rw [hU]; clear hU
  replace BW := Below.more BW bU
  replace HT := Lib.hid (HT.out.below bU)
  clear bU
  have b1 := Below.refl U1.heap.size U1
  obtain ⟨U2, hU, bU, s2, ry0, ry1⟩ := lay b1 (.string ⟨n2.toArray⟩) (.string ⟨d2.toArray⟩) 23
  rw [hU]; clear hU
  rw [← s1] at ry0 ry1
  clear s2
  replace rx0 := fun v (h : Below U2.heap.size U2 v) => rx0 v (Below.more bU h)
  replace rx1 := fun v (h : Below U2.heap.size U2 v) => rx1 v (Below.more bU h)
  replace BW := Below.more BW bU
  replace HT := Lib.hid (HT.out.below bU)
  clear bU
  have b2 := Below.refl U2.heap.size U2
  clear s1
  go_wp2_with fail
  refine (fixed4_any _ (HT.out.below b2)).mono ?_
  rintro e w3 ⟨rfl, b⟩
  have b3 := Below.more b2 b
  clear b
  go_wp2_with fail
  refine (CG.out _).mono ?_
  rintro e w4 ⟨rfl, b⟩
  have b4 := Below.more b3 b
  clear b
  go_wp2_with fail
  refine (CP1.out _ (HT.out.below b4)).mono ?_
  rintro e w5 ⟨rfl, b⟩
  have b5 := Below.more b4 b
  clear b
  go_wp2_with fail
  refine (CS.out _ (HT.out.below b5)).mono ?_
  rintro e w6 ⟨rfl, b⟩
  have b6 := Below.more b5 b
  clear b
  have ba := fun x => Below.alloc b6 (Below.size b6) x
  go_wp2_with fail
  obtain ⟨U7, hU, bU, s7, rz0, rz1⟩ := lay b6 (.string ⟨z1.toArray⟩) (.string ⟨z2.toArray⟩) 23
  rw [hU]; clear hU
  clear s7
  replace rx0 := fun v (h : Below U7.heap.size U7 v) => rx0 v (Below.more bU h)
  replace rx1 := fun v (h : Below U7.heap.size U7 v) => rx1 v (Below.more bU h)
  replace ry0 := fun v (h : Below U7.heap.size U7 v) => ry0 v (Below.more bU h)
  replace ry1 := fun v (h : Below U7.heap.size U7 v) => ry1 v (Below.more bU h)
  replace BW := Below.more BW bU
  replace HT := Lib.hid (HT.out.below bU)
  clear bU
  have b7 := Below.refl U7.heap.size U7
  clear ba
  refine (CU.out _ (HT.out.below b7)).mono ?_
  rintro e w8 ⟨rfl, b⟩
  have b8 := Below.more b7 b
  clear b
  go_wp2_with fail
  go_ret
  exact ⟨ret_bool (by first | rfl | simp [*]), Below.more BW b8⟩
set_option maxRecDepth 100000 in
set_option maxHeartbeats 4000000 in
theorem back4_gt_short_t (s : ByteArray) {n1 d1 n2 d2 p1 p2 z1 z2 p3 : List UInt8} (w : World) (hs : ¬ (300 : Int) < (s.size : Int)) (e1 : (n1 == n2) = true) (e2 : (d1 == d2) = true) (e3 : (p1 == p2) = true) (hl : ¬ (p1.length : Int) ≤ 1000) (hu : ¬ (1000 : Int) < (p3.length : Int)) (ht : GoodD w)
    (CG : Hid (∀ w, Calls Tryz.prog 16 #[.slice (some ⟨w.heap.size, 0, none⟩) 2 2] (w.alloc (.cells #[.string ⟨n1.toArray⟩, .string ⟨d1.toArray⟩, .string ⟨n2.toArray⟩, .string ⟨d2.toArray⟩] 23)) fun e w' => e = .returned (.bool true) ∧ Below w.heap.size w w'))
    (CP1 : Hid (∀ w, GoodD w → Calls Tryz.prog 14 #[.agg #[.string ⟨n1.toArray⟩, .string ⟨d1.toArray⟩]] w (GiveS w p1)))
    (CS : Hid (∀ w, GoodD w → Calls Tryz.prog 10 #[.string s] w (GiveRE w ((z1, z2), 0))))
    (CU : Hid (∀ w, GoodD w → Calls Tryz.prog 14 #[.agg #[.string ⟨z1.toArray⟩, .string ⟨z2.toArray⟩]] w (GiveS w p3)))
    (CW : Hid (∀ w, GoodD w → Calls Tryz.prog 10 #[.string ⟨p3.toArray⟩] w (GiveRE w ((z1, z2), 0))))
    (CP2 : Hid (∀ w, GoodD w → Calls Tryz.prog 14 #[.agg #[.string ⟨n2.toArray⟩, .string ⟨d2.toArray⟩]] w (GiveS w p2))) :
    Calls Tryz.prog 4 #[.agg #[.string ⟨n1.toArray⟩, .string ⟨d1.toArray⟩], .agg #[.string ⟨n2.toArray⟩, .string ⟨d2.toArray⟩], .string s] w (GiveB w true) := by
  have HT := Lib.hid ht; clear ht
  go_enter Tryz.func4, Tryz.ntmps4
  go_wp2_with fail
  have BW := Below.refl w.heap.size w
  have b0 : Below w.heap.size w w := Below.refl _ _
  obtain ⟨U1, hU, bU, s1, rx0, rx1⟩ := lay b0 (.string ⟨n1.toArray⟩) (.string ⟨d1.toArray⟩) 23
  rw [hU]; clear hU
  replace BW := Below.more BW bU
  replace HT := Lib.hid (HT.out.below bU)
  clear bU
  have b1 := Below.refl U1.heap.size U1
  obtain ⟨U2, hU, bU, s2, ry0, ry1⟩ := lay b1 (.string ⟨n2.toArray⟩) (.string ⟨d2.toArray⟩) 23
  rw [hU]; clear hU
  rw [← s1] at ry0 ry1
  clear s2
  replace rx0 := fun v (h : Below U2.heap.size U2 v) => rx0 v (Below.more bU h)
  replace rx1 := fun v (h : Below U2.heap.size U2 v) => rx1 v (Below.more bU h)
  replace BW := Below.more BW bU
  replace HT := Lib.hid (HT.out.below bU)
  clear bU
  have b2 := Below.refl U2.heap.size U2
  clear s1
  go_wp2_with fail
  refine (fixed4_any _ (HT.out.below b2)).mono ?_
  rintro e w3 ⟨rfl, b⟩
  have b3 := Below.more b2 b
  clear b
  go_wp2_with fail
  refine (CG.out _).mono ?_
  rintro e w4 ⟨rfl, b⟩
  have b4 := Below.more b3 b
  clear b
  go_wp2_with fail
  refine (CP1.out _ (HT.out.below b4)).mono ?_
  rintro e w5 ⟨rfl, b⟩
  have b5 := Below.more b4 b
  clear b
  go_wp2_with fail
  refine (CS.out _ (HT.out.below b5)).mono ?_
  rintro e w6 ⟨rfl, b⟩
  have b6 := Below.more b5 b
  clear b
  have ba := fun x => Below.alloc b6 (Below.size b6) x
  go_wp2_with fail
  obtain ⟨U7, hU, bU, s7, rz0, rz1⟩ := lay b6 (.string ⟨z1.toArray⟩) (.string ⟨z2.toArray⟩) 23
  rw [hU]; clear hU
  clear s7
  replace rx0 := fun v (h : Below U7.heap.size U7 v) => rx0 v (Below.more bU h)
  replace rx1 := fun v (h : Below U7.heap.size U7 v) => rx1 v (Below.more bU h)
  replace ry0 := fun v (h : Below U7.heap.size U7 v) => ry0 v (Below.more bU h)
  replace ry1 := fun v (h : Below U7.heap.size U7 v) => ry1 v (Below.more bU h)
  replace BW := Below.more BW bU
  replace HT := Lib.hid (HT.out.below bU)
  clear bU
  have b7 := Below.refl U7.heap.size U7
  clear ba
  refine (CU.out _ (HT.out.below b7)).mono ?_
  rintro e w8 ⟨rfl, b⟩
  have b8 := Below.more b7 b
  clear b
  go_wp2_with fail
  refine (CW.out _ (HT.out.below b8)).mono ?_
  rintro e w9 ⟨rfl, b⟩
  have b9 := Below.more b8 b
  clear b
  have ba := fun x => Below.alloc b9 (Below.size b9) x
  go_wp2_with fail
  obtain ⟨U10, hU, bU, s10, rv0, rv1⟩ := lay b9 (.string ⟨z1.toArray⟩) (.string ⟨z2.toArray⟩) 23
  rw [hU]; clear hU
  clear s10
  replace rx0 := fun v (h : Below U10.heap.size U10 v) => rx0 v (Below.more bU h)
  replace rx1 := fun v (h : Below U10.heap.size U10 v) => rx1 v (Below.more bU h)
  replace ry0 := fun v (h : Below U10.heap.size U10 v) => ry0 v (Below.more bU h)
  replace ry1 := fun v (h : Below U10.heap.size U10 v) => ry1 v (Below.more bU h)
  replace rz0 := fun v (h : Below U10.heap.size U10 v) => rz0 v (Below.more bU h)
  replace rz1 := fun v (h : Below U10.heap.size U10 v) => rz1 v (Below.more bU h)
  replace BW := Below.more BW bU
  replace HT := Lib.hid (HT.out.below bU)
  clear bU
  have b10 := Below.refl U10.heap.size U10
  clear ba
  have hB := Lib.hid (Nat.le_refl U10.heap.size)
  first | (go_region_held3 (fun w' => Below U10.heap.size U10 w')
      (first | (exact b10.drew) | (with_reducible assumption) | (exact Below.alloc (by with_reducible assumption) (Nat.le_trans hB.out (Below.size (by with_reducible assumption))) _) | (exact put2 (by with_reducible assumption) (Nat.le_refl _) _ _) | (exact put2 (by with_reducible assumption) hB.out _ _) | (exact put2 (by with_reducible assumption) (Nat.le_trans hB.out (Below.size (by with_reducible assumption))) _ _))
      (first | (go_at_call 14; (with_reducible refine (held (W := U10) hB.out (CP2.out _ (HT.out.below (by assumption))) (by assumption)).mono ?_); rintro e w'' ⟨rfl, hb, hw⟩; (first | (have hz := zc_made0 hb) | (have hz := zc_made hb) | skip); (try have hz := Zc.below (by assumption) hb); (try (have z0 := hz.c0; have z1 := hz.c1; have z2 := hz.f0; have z3 := hz.f1))))) | fail
  rename_i hH
  have b11 := hH
  clear hH hB
  go_wp2_with fail
  go_ret
  exact ⟨ret_bool (by first | rfl | simp [*]), Below.more BW b11⟩
set_option maxRecDepth 100000 in
set_option maxHeartbeats 4000000 in
theorem back4_gt_short_f2 (s : ByteArray) {n1 d1 n2 d2 p1 p2 z1 z2 p3 : List UInt8} (w : World) (hs : ¬ (300 : Int) < (s.size : Int)) (e1 : (n1 == n2) = true) (e2 : (d1 == d2) = false) (e3 : (p1 == p2) = false) (hl : ¬ (p1.length : Int) ≤ 1000) (hu : ¬ (1000 : Int) < (p3.length : Int)) (ht : GoodD w)
    (CG : Hid (∀ w, Calls Tryz.prog 16 #[.slice (some ⟨w.heap.size, 0, none⟩) 2 2] (w.alloc (.cells #[.string ⟨n1.toArray⟩, .string ⟨d1.toArray⟩, .string ⟨n2.toArray⟩, .string ⟨d2.toArray⟩] 23)) fun e w' => e = .returned (.bool true) ∧ Below w.heap.size w w'))
    (CP1 : Hid (∀ w, GoodD w → Calls Tryz.prog 14 #[.agg #[.string ⟨n1.toArray⟩, .string ⟨d1.toArray⟩]] w (GiveS w p1)))
    (CS : Hid (∀ w, GoodD w → Calls Tryz.prog 10 #[.string s] w (GiveRE w ((z1, z2), 0))))
    (CU : Hid (∀ w, GoodD w → Calls Tryz.prog 14 #[.agg #[.string ⟨z1.toArray⟩, .string ⟨z2.toArray⟩]] w (GiveS w p3)))
    (CW : Hid (∀ w, GoodD w → Calls Tryz.prog 10 #[.string ⟨p3.toArray⟩] w (GiveRE w ((z1, z2), 0))))
    (CP2 : Hid (∀ w, GoodD w → Calls Tryz.prog 14 #[.agg #[.string ⟨n2.toArray⟩, .string ⟨d2.toArray⟩]] w (GiveS w p2))) :
    Calls Tryz.prog 4 #[.agg #[.string ⟨n1.toArray⟩, .string ⟨d1.toArray⟩], .agg #[.string ⟨n2.toArray⟩, .string ⟨d2.toArray⟩], .string s] w (GiveB w true) := by
  have HT := Lib.hid ht; clear ht
  go_enter Tryz.func4, Tryz.ntmps4
  go_wp2_with fail
  have BW := Below.refl w.heap.size w
  have b0 : Below w.heap.size w w := Below.refl _ _
  obtain ⟨U1, hU, bU, s1, rx0, rx1⟩ := lay b0 (.string ⟨n1.toArray⟩) (.string ⟨d1.toArray⟩) 23
  rw [hU]; clear hU
  replace BW := Below.more BW bU
  replace HT := Lib.hid (HT.out.below bU)
  clear bU
  have b1 := Below.refl U1.heap.size U1
  obtain ⟨U2, hU, bU, s2, ry0, ry1⟩ := lay b1 (.string ⟨n2.toArray⟩) (.string ⟨d2.toArray⟩) 23
  rw [hU]; clear hU
  rw [← s1] at ry0 ry1
  clear s2
  replace rx0 := fun v (h : Below U2.heap.size U2 v) => rx0 v (Below.more bU h)
  replace rx1 := fun v (h : Below U2.heap.size U2 v) => rx1 v (Below.more bU h)
  replace BW := Below.more BW bU
  replace HT := Lib.hid (HT.out.below bU)
  clear bU
  have b2 := Below.refl U2.heap.size U2
  clear s1
  go_wp2_with fail
  refine (fixed4_any _ (HT.out.below b2)).mono ?_
  rintro e w3 ⟨rfl, b⟩
  have b3 := Below.more b2 b
  clear b
  go_wp2_with fail
  refine (CG.out _).mono ?_
  rintro e w4 ⟨rfl, b⟩
  have b4 := Below.more b3 b
  clear b
  go_wp2_with fail
  refine (CP1.out _ (HT.out.below b4)).mono ?_
  rintro e w5 ⟨rfl, b⟩
  have b5 := Below.more b4 b
  clear b
  go_wp2_with fail
  refine (CS.out _ (HT.out.below b5)).mono ?_
  rintro e w6 ⟨rfl, b⟩
  have b6 := Below.more b5 b
  clear b
  have ba := fun x => Below.alloc b6 (Below.size b6) x
  go_wp2_with fail
  obtain ⟨U7, hU, bU, s7, rz0, rz1⟩ := lay b6 (.string ⟨z1.toArray⟩) (.string ⟨z2.toArray⟩) 23
  rw [hU]; clear hU
  clear s7
  replace rx0 := fun v (h : Below U7.heap.size U7 v) => rx0 v (Below.more bU h)
  replace rx1 := fun v (h : Below U7.heap.size U7 v) => rx1 v (Below.more bU h)
  replace ry0 := fun v (h : Below U7.heap.size U7 v) => ry0 v (Below.more bU h)
  replace ry1 := fun v (h : Below U7.heap.size U7 v) => ry1 v (Below.more bU h)
  replace BW := Below.more BW bU
  replace HT := Lib.hid (HT.out.below bU)
  clear bU
  have b7 := Below.refl U7.heap.size U7
  clear ba
  refine (CU.out _ (HT.out.below b7)).mono ?_
  rintro e w8 ⟨rfl, b⟩
  have b8 := Below.more b7 b
  clear b
  go_wp2_with fail
  refine (CW.out _ (HT.out.below b8)).mono ?_
  rintro e w9 ⟨rfl, b⟩
  have b9 := Below.more b8 b
  clear b
  have ba := fun x => Below.alloc b9 (Below.size b9) x
  go_wp2_with fail
  obtain ⟨U10, hU, bU, s10, rv0, rv1⟩ := lay b9 (.string ⟨z1.toArray⟩) (.string ⟨z2.toArray⟩) 23
  rw [hU]; clear hU
  clear s10
  replace rx0 := fun v (h : Below U10.heap.size U10 v) => rx0 v (Below.more bU h)
  replace rx1 := fun v (h : Below U10.heap.size U10 v) => rx1 v (Below.more bU h)
  replace ry0 := fun v (h : Below U10.heap.size U10 v) => ry0 v (Below.more bU h)
  replace ry1 := fun v (h : Below U10.heap.size U10 v) => ry1 v (Below.more bU h)
  replace rz0 := fun v (h : Below U10.heap.size U10 v) => rz0 v (Below.more bU h)
  replace rz1 := fun v (h : Below U10.heap.size U10 v) => rz1 v (Below.more bU h)
  replace BW := Below.more BW bU
  replace HT := Lib.hid (HT.out.below bU)
  clear bU
  have b10 := Below.refl U10.heap.size U10
  clear ba
  have hB := Lib.hid (Nat.le_refl U10.heap.size)
  first | (go_region_held3 (fun w' => Below U10.heap.size U10 w')
      (first | (exact b10.drew) | (with_reducible assumption) | (exact Below.alloc (by with_reducible assumption) (Nat.le_trans hB.out (Below.size (by with_reducible assumption))) _) | (exact put2 (by with_reducible assumption) (Nat.le_refl _) _ _) | (exact put2 (by with_reducible assumption) hB.out _ _) | (exact put2 (by with_reducible assumption) (Nat.le_trans hB.out (Below.size (by with_reducible assumption))) _ _))
      (first | (go_at_call 14; (with_reducible refine (held (W := U10) hB.out (CP2.out _ (HT.out.below (by assumption))) (by assumption)).mono ?_); rintro e w'' ⟨rfl, hb, hw⟩; (first | (have hz := zc_made0 hb) | (have hz := zc_made hb) | skip); (try have hz := Zc.below (by assumption) hb); (try (have z0 := hz.c0; have z1 := hz.c1; have z2 := hz.f0; have z3 := hz.f1))))) | fail
  rename_i hH
  have b11 := hH
  clear hH hB
  go_wp2_with fail
  go_ret
  exact ⟨ret_bool (by first | rfl | simp [*]), Below.more BW b11⟩
set_option maxRecDepth 100000 in
set_option maxHeartbeats 4000000 in
theorem back4_gt_short_f1 (s : ByteArray) {n1 d1 n2 d2 p1 p2 z1 z2 p3 : List UInt8} (w : World) (hs : ¬ (300 : Int) < (s.size : Int)) (e1 : (n1 == n2) = false) (e3 : (p1 == p2) = false) (hl : ¬ (p1.length : Int) ≤ 1000) (hu : ¬ (1000 : Int) < (p3.length : Int)) (ht : GoodD w)
    (CG : Hid (∀ w, Calls Tryz.prog 16 #[.slice (some ⟨w.heap.size, 0, none⟩) 2 2] (w.alloc (.cells #[.string ⟨n1.toArray⟩, .string ⟨d1.toArray⟩, .string ⟨n2.toArray⟩, .string ⟨d2.toArray⟩] 23)) fun e w' => e = .returned (.bool true) ∧ Below w.heap.size w w'))
    (CP1 : Hid (∀ w, GoodD w → Calls Tryz.prog 14 #[.agg #[.string ⟨n1.toArray⟩, .string ⟨d1.toArray⟩]] w (GiveS w p1)))
    (CS : Hid (∀ w, GoodD w → Calls Tryz.prog 10 #[.string s] w (GiveRE w ((z1, z2), 0))))
    (CU : Hid (∀ w, GoodD w → Calls Tryz.prog 14 #[.agg #[.string ⟨z1.toArray⟩, .string ⟨z2.toArray⟩]] w (GiveS w p3)))
    (CW : Hid (∀ w, GoodD w → Calls Tryz.prog 10 #[.string ⟨p3.toArray⟩] w (GiveRE w ((z1, z2), 0))))
    (CP2 : Hid (∀ w, GoodD w → Calls Tryz.prog 14 #[.agg #[.string ⟨n2.toArray⟩, .string ⟨d2.toArray⟩]] w (GiveS w p2))) :
    Calls Tryz.prog 4 #[.agg #[.string ⟨n1.toArray⟩, .string ⟨d1.toArray⟩], .agg #[.string ⟨n2.toArray⟩, .string ⟨d2.toArray⟩], .string s] w (GiveB w true) := by
  have HT := Lib.hid ht; clear ht
  go_enter Tryz.func4, Tryz.ntmps4
  go_wp2_with fail
  have BW := Below.refl w.heap.size w
  have b0 : Below w.heap.size w w := Below.refl _ _
  obtain ⟨U1, hU, bU, s1, rx0, rx1⟩ := lay b0 (.string ⟨n1.toArray⟩) (.string ⟨d1.toArray⟩) 23
  rw [hU]; clear hU
  replace BW := Below.more BW bU
  replace HT := Lib.hid (HT.out.below bU)
  clear bU
  have b1 := Below.refl U1.heap.size U1
  obtain ⟨U2, hU, bU, s2, ry0, ry1⟩ := lay b1 (.string ⟨n2.toArray⟩) (.string ⟨d2.toArray⟩) 23
  rw [hU]; clear hU
  rw [← s1] at ry0 ry1
  clear s2
  replace rx0 := fun v (h : Below U2.heap.size U2 v) => rx0 v (Below.more bU h)
  replace rx1 := fun v (h : Below U2.heap.size U2 v) => rx1 v (Below.more bU h)
  replace BW := Below.more BW bU
  replace HT := Lib.hid (HT.out.below bU)
  clear bU
  have b2 := Below.refl U2.heap.size U2
  clear s1
  go_wp2_with fail
  refine (fixed4_any _ (HT.out.below b2)).mono ?_
  rintro e w3 ⟨rfl, b⟩
  have b3 := Below.more b2 b
  clear b
  go_wp2_with fail
  refine (CG.out _).mono ?_
  rintro e w4 ⟨rfl, b⟩
  have b4 := Below.more b3 b
  clear b
  go_wp2_with fail
  refine (CP1.out _ (HT.out.below b4)).mono ?_
  rintro e w5 ⟨rfl, b⟩
  have b5 := Below.more b4 b
  clear b
  go_wp2_with fail
  refine (CS.out _ (HT.out.below b5)).mono ?_
  rintro e w6 ⟨rfl, b⟩
  have b6 := Below.more b5 b
  clear b
  have ba := fun x => Below.alloc b6 (Below.size b6) x
  go_wp2_with fail
  obtain ⟨U7, hU, bU, s7, rz0, rz1⟩ := lay b6 (.string ⟨z1.toArray⟩) (.string ⟨z2.toArray⟩) 23
  rw [hU]; clear hU
  clear s7
  replace rx0 := fun v (h : Below U7.heap.size U7 v) => rx0 v (Below.more bU h)
  replace rx1 := fun v (h : Below U7.heap.size U7 v) => rx1 v (Below.more bU h)
  replace ry0 := fun v (h : Below U7.heap.size U7 v) => ry0 v (Below.more bU h)
  replace ry1 := fun v (h : Below U7.heap.size U7 v) => ry1 v (Below.more bU h)
  replace BW := Below.more BW bU
  replace HT := Lib.hid (HT.out.below bU)
  clear bU
  have b7 := Below.refl U7.heap.size U7
  clear ba
  refine (CU.out _ (HT.out.below b7)).mono ?_
  rintro e w8 ⟨rfl, b⟩
  have b8 := Below.more b7 b
  clear b
  go_wp2_with fail
  refine (CW.out _ (HT.out.below b8)).mono ?_
  rintro e w9 ⟨rfl, b⟩
  have b9 := Below.more b8 b
  clear b
  have ba := fun x => Below.alloc b9 (Below.size b9) x
  go_wp2_with fail
  obtain ⟨U10, hU, bU, s10, rv0, rv1⟩ := lay b9 (.string ⟨z1.toArray⟩) (.string ⟨z2.toArray⟩) 23
  rw [hU]; clear hU
  clear s10
  replace rx0 := fun v (h : Below U10.heap.size U10 v) => rx0 v (Below.more bU h)
  replace rx1 := fun v (h : Below U10.heap.size U10 v) => rx1 v (Below.more bU h)
  replace ry0 := fun v (h : Below U10.heap.size U10 v) => ry0 v (Below.more bU h)
  replace ry1 := fun v (h : Below U10.heap.size U10 v) => ry1 v (Below.more bU h)
  replace rz0 := fun v (h : Below U10.heap.size U10 v) => rz0 v (Below.more bU h)
  replace rz1 := fun v (h : Below U10.heap.size U10 v) => rz1 v (Below.more bU h)
  replace BW := Below.more BW bU
  replace HT := Lib.hid (HT.out.below bU)
  clear bU
  have b10 := Below.refl U10.heap.size U10
  clear ba
  have hB := Lib.hid (Nat.le_refl U10.heap.size)
  first | (go_region_held3 (fun w' => Below U10.heap.size U10 w')
      (first | (exact b10.drew) | (with_reducible assumption) | (exact Below.alloc (by with_reducible assumption) (Nat.le_trans hB.out (Below.size (by with_reducible assumption))) _) | (exact put2 (by with_reducible assumption) (Nat.le_refl _) _ _) | (exact put2 (by with_reducible assumption) hB.out _ _) | (exact put2 (by with_reducible assumption) (Nat.le_trans hB.out (Below.size (by with_reducible assumption))) _ _))
      (first | (go_at_call 14; (with_reducible refine (held (W := U10) hB.out (CP2.out _ (HT.out.below (by assumption))) (by assumption)).mono ?_); rintro e w'' ⟨rfl, hb, hw⟩; (first | (have hz := zc_made0 hb) | (have hz := zc_made hb) | skip); (try have hz := Zc.below (by assumption) hb); (try (have z0 := hz.c0; have z1 := hz.c1; have z2 := hz.f0; have z3 := hz.f1))))) | fail
  rename_i hH
  have b11 := hH
  clear hH hB
  go_wp2_with fail
  go_ret
  exact ⟨ret_bool (by first | rfl | simp [*]), Below.more BW b11⟩
theorem mk_le (n : Nat) {d : Nat} (hd : d ≠ 0) (b : Bool) : (sq b (mkRat (n : Int) d)).num.natAbs ≤ n ∧ (sq b (mkRat (n : Int) d)).den ≤ d := by
  have e := divInt_pos (n := (n : Int)) (d := (d : Int)) (by omega)
  rw [Rat.divInt_ofNat] at e
  have h1 : (mkRat (n : Int) d).num.natAbs ≤ n := by
    rw [e.1]
    exact natAbs_ediv _ _
  have h2 : (mkRat (n : Int) d).den ≤ d := by
    have h3 : (d : Int) / (Nat.gcd (n : Int).natAbs (d : Int).natAbs : Int) ≤ d := Int.ediv_le_self _ (by omega)
    omega
  cases b with
  | false => exact ⟨h1, h2⟩
  | true =>
    show (-(mkRat (n : Int) d)).num.natAbs ≤ n ∧ (-(mkRat (n : Int) d)).den ≤ d
    rw [Rat.neg_num, Rat.neg_den, Int.natAbs_neg]
    exact ⟨h1, h2⟩
theorem partsT_of {t : List UInt8} {n d : Nat} (h : partsD t = some (n, d)) : partsT t = (dig n, dig d) ∧ d ≠ 0 := by
  unfold partsD at h
  unfold partsT
  by_cases h1 : t.idxOf 47 < t.length
  · rw [if_pos h1] at h ⊢
    cases ha : digs (t.take (t.idxOf 47)) && (digs (t.drop (t.idxOf 47 + 1)) && !(valS (t.drop (t.idxOf 47 + 1)) == 0)) with
    | false => rw [ha] at h; cases h
    | true =>
      rw [ha] at h
      cases h
      rw [Bool.and_eq_true, Bool.and_eq_true] at ha
      exact ⟨by rw [natD_yes ha.1, natD_yes ha.2.1], fun e => by have := ha.2.2; rw [e] at this; cases this⟩
  · rw [if_neg h1] at h ⊢
    by_cases h2 : t.idxOf 46 < t.length
    · rw [if_pos h2] at h ⊢
      cases ha : digs (t.take (t.idxOf 46)) && digs (t.drop (t.idxOf 46 + 1)) with
      | false => rw [ha] at h; cases h
      | true =>
        rw [ha] at h
        cases h
        exact ⟨rfl, ten_ne _⟩
    · rw [if_neg h2] at h ⊢
      cases ha : digs t with
      | false => rw [ha] at h; cases h
      | true =>
        rw [ha] at h
        cases h
        exact ⟨by rw [natD_yes ha, dig_one], by decide⟩
theorem parU_len {l : List UInt8} {Z : Rat} (h : parU l = some Z) : (rdN Z).length ≤ l.length + 1 ∧ (rdD Z).length ≤ l.length + 1 := by
  unfold parU at h
  cases hp : partsD (unD l).2 with
  | none => rw [hp] at h; cases h
  | some p =>
    obtain ⟨n, d⟩ := p
    rw [hp] at h
    have h : some (sq (unD l).1 (mkRat (n : Int) d)) = some Z := h
    cases h
    obtain ⟨e1, e2⟩ := partsT_of hp
    obtain ⟨l1, l2⟩ := partsT_len (unD l).2
    rw [e1] at l1 l2
    have l1 : (dig n).length ≤ (unD l).2.length := l1
    have l2 : (dig d).length ≤ (unD l).2.length + 1 := l2
    have l3 := unD_len l
    obtain ⟨m1, m2⟩ := mk_le n e2 (unD l).1
    have k1 := dig_len_le m1
    have k2 := dig_len_le m2
    refine ⟨?_, ?_⟩
    · refine Nat.le_trans (wd_length _) ?_; omega
    · show (dig _).length ≤ _; omega
theorem pr_of (X : Rat) (h1 : (rdN X).length ≤ 4000) (h2 : (rdD X).length ≤ 4000) (w : World) (hg : GoodD w) :
    Calls Tryz.prog 14 #[.agg #[.string ⟨(rdN X).toArray⟩, .string ⟨(rdD X).toArray⟩]] w (GiveS w (prD X)) := by
  have c := print_any ⟨(rdN X).toArray⟩ ⟨(rdD X).toArray⟩ w (by rw [size_of]; exact h1) (by rw [size_of]; exact h2) hg
  have e : prS ((⟨(rdN X).toArray⟩ : ByteArray).data.toList, (⟨(rdD X).toArray⟩ : ByteArray).data.toList) = prD X := by
    show prS (rd X) = _
    rw [prS_yes (isR_rd X), valR_rd]
  rw [e] at c
  exact c
theorem pa_of (X : Rat) (h : (prD X).length ≤ 1000) (w : World) (hg : GoodD w) :
    Calls Tryz.prog 10 #[.string ⟨(prD X).toArray⟩] w (GiveRE w ((rdN X, rdD X), 0)) := by
  have c := parse_any ⟨(prD X).toArray⟩ w (by rw [size_of]; omega) hg
  have e : parS (⟨(prD X).toArray⟩ : ByteArray).data.toList = (rd X, 0) := parS_some h (back_u X)
  rw [e] at c
  exact c
theorem pr_ways (X Y : Rat) : ((rdN X == rdN Y) = true ∧ (rdD X == rdD Y) = true ∧ (prD X == prD Y) = true) ∨ ((rdN X == rdN Y) = true ∧ (rdD X == rdD Y) = false ∧ (prD X == prD Y) = false) ∨ ((rdN X == rdN Y) = false ∧ (prD X == prD Y) = false) := by
  by_cases h : X = Y
  · subst h
    exact .inl ⟨beq_self_eq_true _, beq_self_eq_true _, beq_self_eq_true _⟩
  · have e3 : (prD X == prD Y) = false := beq_false_of_ne fun e => h (prD_inj e)
    cases e1 : (rdN X == rdN Y) with
    | false => exact .inr (.inr ⟨rfl, e3⟩)
    | true => cases e2 : (rdD X == rdD Y) with
      | false => exact .inr (.inl ⟨rfl, rfl, e3⟩)
      | true => exact absurd (rd_inj (Prod.ext (eq_of_beq e1) (eq_of_beq e2))) h
theorem back4_main (X Y : Rat) (s : ByteArray) (w : World) (hs : ¬ (300 : Int) < (s.size : Int)) (l1 : (rdN X).length ≤ 100) (l2 : (rdD X).length ≤ 100) (l3 : (rdN Y).length ≤ 100) (l4 : (rdD Y).length ≤ 100)
    (cg : ∀ w, Calls Tryz.prog 16 #[.slice (some ⟨w.heap.size, 0, none⟩) 2 2] (w.alloc (.cells #[.string ⟨(rdN X).toArray⟩, .string ⟨(rdD X).toArray⟩, .string ⟨(rdN Y).toArray⟩, .string ⟨(rdD Y).toArray⟩] 23)) fun e w' => e = .returned (.bool true) ∧ Below w.heap.size w w') (ht : GoodD w) :
    Calls Tryz.prog 4 #[.agg #[.string ⟨(rdN X).toArray⟩, .string ⟨(rdD X).toArray⟩], .agg #[.string ⟨(rdN Y).toArray⟩, .string ⟨(rdD Y).toArray⟩], .string s] w (GiveB w true) := by
  have cp1 := pr_of X (by omega) (by omega)
  have cp2 := pr_of Y (by omega) (by omega)
  have cs := fun w hg => parse_any s w (by omega) hg
  have hw := pr_ways X Y
  have ca := fun (h : (prD X).length ≤ 1000) => pa_of X h
  by_cases hl' : (prD X).length ≤ 1000
  · have hl : ((prD X).length : Int) ≤ 1000 := by omega
    cases hq : parU s.data.toList with
    | none =>
      rw [parS_none hq] at cs
      rcases hw with ⟨e1, e2, e3⟩ | ⟨e1, e2, e3⟩ | ⟨e1, e3⟩
      · exact back4_le_none_t s w hs e1 e2 e3 hl ht (Lib.hid cg) (Lib.hid cp1) (Lib.hid (ca hl')) (Lib.hid cs) (Lib.hid cp2)
      · exact back4_le_none_f2 s w hs e1 e2 e3 hl ht (Lib.hid cg) (Lib.hid cp1) (Lib.hid (ca hl')) (Lib.hid cs) (Lib.hid cp2)
      · exact back4_le_none_f1 s w hs e1 e3 hl ht (Lib.hid cg) (Lib.hid cp1) (Lib.hid (ca hl')) (Lib.hid cs) (Lib.hid cp2)
    | some Z =>
      have hZ := parU_len hq
      rw [parS_some (by rw [size_toList]; omega) hq] at cs
      have cs : ∀ w, GoodD w → Calls Tryz.prog 10 #[.string s] w (GiveRE w ((rdN Z, rdD Z), 0)) := cs
      rw [size_toList] at hZ
      have cu := pr_of Z (by omega) (by omega)
      by_cases hu : (prD Z).length ≤ 1000
      · have cw := fun (h : (prD Z).length ≤ 1000) => pa_of Z h
        rcases hw with ⟨e1, e2, e3⟩ | ⟨e1, e2, e3⟩ | ⟨e1, e3⟩
        · exact back4_le_short_t s w hs e1 e2 e3 hl (by omega) ht (Lib.hid cg) (Lib.hid cp1) (Lib.hid (ca hl')) (Lib.hid cs) (Lib.hid cu) (Lib.hid (cw hu)) (Lib.hid cp2)
        · exact back4_le_short_f2 s w hs e1 e2 e3 hl (by omega) ht (Lib.hid cg) (Lib.hid cp1) (Lib.hid (ca hl')) (Lib.hid cs) (Lib.hid cu) (Lib.hid (cw hu)) (Lib.hid cp2)
        · exact back4_le_short_f1 s w hs e1 e3 hl (by omega) ht (Lib.hid cg) (Lib.hid cp1) (Lib.hid (ca hl')) (Lib.hid cs) (Lib.hid cu) (Lib.hid (cw hu)) (Lib.hid cp2)
      · exact back4_le_long s w hs hl (by omega) ht (Lib.hid cg) (Lib.hid cp1) (Lib.hid (ca hl')) (Lib.hid cs) (Lib.hid cu)
  · have hl : ¬ ((prD X).length : Int) ≤ 1000 := by omega
    cases hq : parU s.data.toList with
    | none =>
      rw [parS_none hq] at cs
      rcases hw with ⟨e1, e2, e3⟩ | ⟨e1, e2, e3⟩ | ⟨e1, e3⟩
      · exact back4_gt_none_t s w hs e1 e2 e3 hl ht (Lib.hid cg) (Lib.hid cp1) (Lib.hid cs) (Lib.hid cp2)
      · exact back4_gt_none_f2 s w hs e1 e2 e3 hl ht (Lib.hid cg) (Lib.hid cp1) (Lib.hid cs) (Lib.hid cp2)
      · exact back4_gt_none_f1 s w hs e1 e3 hl ht (Lib.hid cg) (Lib.hid cp1) (Lib.hid cs) (Lib.hid cp2)
    | some Z =>
      have hZ := parU_len hq
      rw [parS_some (by rw [size_toList]; omega) hq] at cs
      have cs : ∀ w, GoodD w → Calls Tryz.prog 10 #[.string s] w (GiveRE w ((rdN Z, rdD Z), 0)) := cs
      rw [size_toList] at hZ
      have cu := pr_of Z (by omega) (by omega)
      by_cases hu : (prD Z).length ≤ 1000
      · have cw := fun (h : (prD Z).length ≤ 1000) => pa_of Z h
        rcases hw with ⟨e1, e2, e3⟩ | ⟨e1, e2, e3⟩ | ⟨e1, e3⟩
        · exact back4_gt_short_t s w hs e1 e2 e3 hl (by omega) ht (Lib.hid cg) (Lib.hid cp1) (Lib.hid cs) (Lib.hid cu) (Lib.hid (cw hu)) (Lib.hid cp2)
        · exact back4_gt_short_f2 s w hs e1 e2 e3 hl (by omega) ht (Lib.hid cg) (Lib.hid cp1) (Lib.hid cs) (Lib.hid cu) (Lib.hid (cw hu)) (Lib.hid cp2)
        · exact back4_gt_short_f1 s w hs e1 e3 hl (by omega) ht (Lib.hid cg) (Lib.hid cp1) (Lib.hid cs) (Lib.hid cu) (Lib.hid (cw hu)) (Lib.hid cp2)
      · exact back4_gt_long s w hs hl (by omega) ht (Lib.hid cg) (Lib.hid cp1) (Lib.hid cs) (Lib.hid cu)
set_option maxRecDepth 100000 in
set_option maxHeartbeats 4000000 in
theorem back4_any (n d m c s : ByteArray) (w : World) (ht : GoodD w) :
    Calls Tryz.prog 4 #[.agg #[.string n, .string d], .agg #[.string m, .string c], .string s] w (GiveB w true) := by
  have cg : ∀ w, Calls Tryz.prog 16 #[.slice (some ⟨w.heap.size, 0, none⟩) 2 2] (w.alloc (.cells #[.string n, .string d, .string m, .string c] 23)) fun e w' => e = .returned (.bool (gdQ (n, d) && gdQ (m, c))) ∧ Below w.heap.size w w' := fun w => good2 w (n, d) (m, c)
  cases hg : gdQ (n, d) && gdQ (m, c) with
  | false =>
    rw [hg] at cg
    clear hg
    have CG := Lib.hid cg
    clear cg
    have HT := Lib.hid ht; clear ht
    go_enter Tryz.func4, Tryz.ntmps4
    go_wp2_with fail
    have BW := Below.refl w.heap.size w
    have b0 : Below w.heap.size w w := Below.refl _ _
    obtain ⟨U1, hU, bU, s1, rx0, rx1⟩ := lay b0 (.string n) (.string d) 23
    rw [hU]; clear hU
    replace BW := Below.more BW bU
    replace HT := Lib.hid (HT.out.below bU)
    clear bU
    have b1 := Below.refl U1.heap.size U1
    obtain ⟨U2, hU, bU, s2, ry0, ry1⟩ := lay b1 (.string m) (.string c) 23
    rw [hU]; clear hU
    rw [← s1] at ry0 ry1
    clear s2
    replace rx0 := fun v (h : Below U2.heap.size U2 v) => rx0 v (Below.more bU h)
    replace rx1 := fun v (h : Below U2.heap.size U2 v) => rx1 v (Below.more bU h)
    replace BW := Below.more BW bU
    replace HT := Lib.hid (HT.out.below bU)
    clear bU
    have b2 := Below.refl U2.heap.size U2
    clear s1
    go_wp2_with fail
    refine (fixed4_any _ (HT.out.below b2)).mono ?_
    rintro e w3 ⟨rfl, b⟩
    have b3 := Below.more b2 b
    clear b
    go_wp2_with fail
    refine (CG.out _).mono ?_
    rintro e w4 ⟨rfl, b⟩
    have b4 := Below.more b3 b
    clear b
    go_wp2_with fail
    refine (fixed4_any _ (HT.out.below b4)).mono ?_
    rintro e w5 ⟨rfl, b⟩
    have b5 := Below.more b4 b
    clear b
    go_wp2_with fail
    go_ret
    exact ⟨rfl, Below.more BW b5⟩
  | true =>
    rw [hg] at cg
    by_cases h1 : (300 : Int) < (s.size : Int)
    · clear hg
      have CG := Lib.hid cg
      clear cg
      have HT := Lib.hid ht; clear ht
      go_enter Tryz.func4, Tryz.ntmps4
      go_wp2_with fail
      have BW := Below.refl w.heap.size w
      have b0 : Below w.heap.size w w := Below.refl _ _
      obtain ⟨U1, hU, bU, s1, rx0, rx1⟩ := lay b0 (.string n) (.string d) 23
      rw [hU]; clear hU
      replace BW := Below.more BW bU
      replace HT := Lib.hid (HT.out.below bU)
      clear bU
      have b1 := Below.refl U1.heap.size U1
      obtain ⟨U2, hU, bU, s2, ry0, ry1⟩ := lay b1 (.string m) (.string c) 23
      rw [hU]; clear hU
      rw [← s1] at ry0 ry1
      clear s2
      replace rx0 := fun v (h : Below U2.heap.size U2 v) => rx0 v (Below.more bU h)
      replace rx1 := fun v (h : Below U2.heap.size U2 v) => rx1 v (Below.more bU h)
      replace BW := Below.more BW bU
      replace HT := Lib.hid (HT.out.below bU)
      clear bU
      have b2 := Below.refl U2.heap.size U2
      clear s1
      go_wp2_with fail
      refine (fixed4_any _ (HT.out.below b2)).mono ?_
      rintro e w3 ⟨rfl, b⟩
      have b3 := Below.more b2 b
      clear b
      go_wp2_with fail
      refine (CG.out _).mono ?_
      rintro e w4 ⟨rfl, b⟩
      have b4 := Below.more b3 b
      clear b
      go_wp2_with fail
      refine (fixed4_any _ (HT.out.below b4)).mono ?_
      rintro e w5 ⟨rfl, b⟩
      have b5 := Below.more b4 b
      clear b
      go_wp2_with fail
      go_ret
      exact ⟨rfl, Below.more BW b5⟩
    · rw [Bool.and_eq_true] at hg
      obtain ⟨g1, g2, g3⟩ := gd_parts hg.1
      obtain ⟨g4, g5, g6⟩ := gd_parts hg.2
      obtain ⟨e1, e2⟩ := str_rd g3
      obtain ⟨e3, e4⟩ := str_rd g6
      rw [show (n, d).1.size = _ from (congrArg ByteArray.size e1).trans (size_of _)] at g1
      rw [show (n, d).2.size = _ from (congrArg ByteArray.size e2).trans (size_of _)] at g2
      rw [show (m, c).1.size = _ from (congrArg ByteArray.size e3).trans (size_of _)] at g4
      rw [show (m, c).2.size = _ from (congrArg ByteArray.size e4).trans (size_of _)] at g5
      generalize valR ((n, d).1.data.toList, (n, d).2.data.toList) = X at *
      generalize valR ((m, c).1.data.toList, (m, c).2.data.toList) = Y at *
      clear g3 g6 hg
      have e1 : n = _ := e1
      have e2 : d = _ := e2
      have e3 : m = _ := e3
      have e4 : c = _ := e4
      subst e1
      subst e2
      subst e3
      subst e4
      exact back4_main X Y s w h1 g1 g2 g4 g5 cg ht
end Go.Proofs.YtdibnolbichbmaaGreatDoor
