/- The walk of GridNear. -/
import Derived.Deep.CutRange
import Derived.Test.YtnahepfnejdcgaaGreatDoorWTwice5
namespace Go.Proofs.YtnahepfnejdcgaaGreatDoor
open Go.RowKit
set_option linter.unusedSimpArgs false
set_option linter.unusedVariables false

theorem restore {B : Nat} {u w : World} {b : Nat} {a c : Value} (hz : Zc b a c w) (h : Below B u w) (hB : B ≤ b) (x y : Value) : ∃ V, (w.setCell ⟨b, 0, none⟩ x).setCell ⟨b, 1, none⟩ y = V ∧ Below B u V ∧
    (∀ v, Below V.heap.size V v → v.cell? ⟨b, 0, none⟩ = some x) ∧ (∀ v, Below V.heap.size V v → v.cell? ⟨b, 1, none⟩ = some y) :=
  ⟨_, rfl, put2 h hB _ _, fun _ k => ((zc_set hz).below k).c0, fun _ k => ((zc_set hz).below k).c1⟩
set_option maxRecDepth 100000 in
set_option maxHeartbeats 4000000 in
theorem near5_0p {x1 x2 g1 g2 y1 y2 q1 d1 d2 : List UInt8} {s sd k : Int} (w : World) (hs : ¬ s ≤ 0) (hd : ¬ sd < 0) (hk : k ≤ 0) (ht : GoodG w)
    (CG : Hid (∀ w, Calls Tryz.prog 15 #[.slice (some ⟨w.heap.size, 0, none⟩) 2 2] (w.alloc (.cells #[.string ⟨x1.toArray⟩, .string ⟨x2.toArray⟩, .string ⟨g1.toArray⟩, .string ⟨g2.toArray⟩] 23)) fun e w' => e = .returned (.bool true) ∧ Below w.heap.size w w'))
    (CS : Hid (∀ w, Calls Tryz.prog 16 #[.agg #[.string ⟨g1.toArray⟩, .string ⟨g2.toArray⟩]] w (GiveI w s)))
    (CR : Hid (∀ w, GoodG w → Calls Tryz.prog 11 #[.agg #[.string ⟨x1.toArray⟩, .string ⟨x2.toArray⟩], .agg #[.string ⟨g1.toArray⟩, .string ⟨g2.toArray⟩], .int .i64 0] w (GiveR w (y1, y2))))
    (CD : Hid (∀ w, Calls Tryz.prog 17 #[.agg #[.string ⟨y1.toArray⟩, .string ⟨y2.toArray⟩], .agg #[.string ⟨g1.toArray⟩, .string ⟨g2.toArray⟩]] w (GiveRB w ((q1, [49]), true))))
    (CB : Hid (∀ w, Calls Tryz.prog 18 #[.agg #[.string ⟨y1.toArray⟩, .string ⟨y2.toArray⟩], .agg #[.string ⟨x1.toArray⟩, .string ⟨x2.toArray⟩]] w (GiveR w (d1, d2))))
    (CSD : Hid (∀ w, Calls Tryz.prog 16 #[.agg #[.string ⟨d1.toArray⟩, .string ⟨d2.toArray⟩]] w (GiveI w sd)))
    (CMY : Hid (∀ w, Calls Tryz.prog 20 #[.agg #[.string ⟨y1.toArray⟩, .string ⟨y2.toArray⟩]] w (GiveB w true)))
    (CDG : Hid (∀ w, Calls Tryz.prog 21 #[.agg #[.string ⟨d1.toArray⟩, .string ⟨d2.toArray⟩], .agg #[.string ⟨g1.toArray⟩, .string ⟨g2.toArray⟩]] w (GiveI w (-1))))
    (CR2 : Hid (∀ w, GoodG w → Calls Tryz.prog 11 #[.agg #[.string ⟨y1.toArray⟩, .string ⟨y2.toArray⟩], .agg #[.string ⟨g1.toArray⟩, .string ⟨g2.toArray⟩], .int .i64 0] w (GiveR w (y1, y2))))
    (CYX : Hid (∀ w, Calls Tryz.prog 21 #[.agg #[.string ⟨y1.toArray⟩, .string ⟨y2.toArray⟩], .agg #[.string ⟨x1.toArray⟩, .string ⟨x2.toArray⟩]] w (GiveI w k))) :
    Calls Tryz.prog 4 #[.agg #[.string ⟨x1.toArray⟩, .string ⟨x2.toArray⟩], .agg #[.string ⟨g1.toArray⟩, .string ⟨g2.toArray⟩], .int .i64 0] w (GiveB w true) := by
  have HT := Lib.hid ht; clear ht
  go_enter Tryz.func4, Tryz.ntmps4
  go_wp2_with fail
  have BW := Below.refl w.heap.size w
  have b0 : Below w.heap.size w w := Below.refl _ _
  obtain ⟨U1, hU, bU, s1, rx0, rx1⟩ := lay b0 (.string ⟨x1.toArray⟩) (.string ⟨x2.toArray⟩) 23
  rw [hU]; clear hU
  replace BW := Below.more BW bU
  replace HT := Lib.hid (HT.out.below bU)
  clear bU
  have b1 := Below.refl U1.heap.size U1
  obtain ⟨U2, hU, bU, s2, ry0, ry1⟩ := lay b1 (.string ⟨g1.toArray⟩) (.string ⟨g2.toArray⟩) 23
  rw [hU]; clear hU
  rw [← s1] at ry0 ry1
  clear s2
  replace rx0 := fun v (h : Below U2.heap.size U2 v) => rx0 v (Below.more bU h)
  replace rx1 := fun v (h : Below U2.heap.size U2 v) => rx1 v (Below.more bU h)
  replace BW := Below.more BW bU
  replace HT := Lib.hid (HT.out.below bU)
  clear bU
  have b2 := Below.refl U2.heap.size U2
  clear s1
  go_wp2_with fail
  refine (fixed5_any _ (HT.out.below b2)).mono ?_
  rintro e w3 ⟨rfl, b⟩
  have b3 := Below.more b2 b
  clear b
  go_wp2_with fail
  refine (CG.out _).mono ?_
  rintro e w4 ⟨rfl, b⟩
  have b4 := Below.more b3 b
  clear b
  go_wp2_with fail
  refine (CS.out _).mono ?_
  rintro e w5 ⟨rfl, b⟩
  have b5 := Below.more b4 b
  clear b
  go_wp2_with fail
  refine (CR.out _ (HT.out.below b5)).mono ?_
  rintro e w6 ⟨rfl, b⟩
  have b6 := Below.more b5 b
  clear b
  have ba := fun x => Below.alloc b6 (Below.size b6) x
  go_wp2_with fail
  obtain ⟨U7, hU, bU, s7, rv0, rv1⟩ := lay b6 (.string ⟨y1.toArray⟩) (.string ⟨y2.toArray⟩) 23
  rw [hU]; clear hU
  clear s7
  replace rx0 := fun v (h : Below U7.heap.size U7 v) => rx0 v (Below.more bU h)
  replace rx1 := fun v (h : Below U7.heap.size U7 v) => rx1 v (Below.more bU h)
  replace ry0 := fun v (h : Below U7.heap.size U7 v) => ry0 v (Below.more bU h)
  replace ry1 := fun v (h : Below U7.heap.size U7 v) => ry1 v (Below.more bU h)
  replace BW := Below.more BW bU
  replace HT := Lib.hid (HT.out.below bU)
  clear bU
  have b7 := Below.refl U7.heap.size U7
  clear ba
  refine (CD.out _).mono ?_
  rintro e w8 ⟨rfl, b⟩
  have b8 := Below.more b7 b
  clear b
  have ba := fun x => Below.alloc b8 (Below.size b8) x
  go_wp2_with fail
  obtain ⟨U9, hU, bU, s9, rq0, rq1⟩ := lay b8 (.string ⟨q1.toArray⟩) (.string ⟨#[49]⟩) 23
  rw [hU]; clear hU
  clear s9
  replace rx0 := fun v (h : Below U9.heap.size U9 v) => rx0 v (Below.more bU h)
  replace rx1 := fun v (h : Below U9.heap.size U9 v) => rx1 v (Below.more bU h)
  replace ry0 := fun v (h : Below U9.heap.size U9 v) => ry0 v (Below.more bU h)
  replace ry1 := fun v (h : Below U9.heap.size U9 v) => ry1 v (Below.more bU h)
  replace rv0 := fun v (h : Below U9.heap.size U9 v) => rv0 v (Below.more bU h)
  replace rv1 := fun v (h : Below U9.heap.size U9 v) => rv1 v (Below.more bU h)
  replace BW := Below.more BW bU
  replace HT := Lib.hid (HT.out.below bU)
  clear bU
  have b9 := Below.refl U9.heap.size U9
  clear ba
  refine (CB.out _).mono ?_
  rintro e w10 ⟨rfl, b⟩
  have b10 := Below.more b9 b
  clear b
  have ba := fun x => Below.alloc b10 (Below.size b10) x
  go_wp2_with fail
  obtain ⟨U11, hU, bU, s11, rd0, rd1⟩ := lay b10 (.string ⟨d1.toArray⟩) (.string ⟨d2.toArray⟩) 23
  rw [hU]; clear hU
  clear s11
  replace rx0 := fun v (h : Below U11.heap.size U11 v) => rx0 v (Below.more bU h)
  replace rx1 := fun v (h : Below U11.heap.size U11 v) => rx1 v (Below.more bU h)
  replace ry0 := fun v (h : Below U11.heap.size U11 v) => ry0 v (Below.more bU h)
  replace ry1 := fun v (h : Below U11.heap.size U11 v) => ry1 v (Below.more bU h)
  replace rv0 := fun v (h : Below U11.heap.size U11 v) => rv0 v (Below.more bU h)
  replace rv1 := fun v (h : Below U11.heap.size U11 v) => rv1 v (Below.more bU h)
  replace rq0 := fun v (h : Below U11.heap.size U11 v) => rq0 v (Below.more bU h)
  replace rq1 := fun v (h : Below U11.heap.size U11 v) => rq1 v (Below.more bU h)
  replace BW := Below.more BW bU
  replace HT := Lib.hid (HT.out.below bU)
  clear bU
  have b11 := Below.refl U11.heap.size U11
  clear ba
  refine (CSD.out _).mono ?_
  rintro e w12 ⟨rfl, b⟩
  have b12 := Below.more b11 b
  clear b
  go_wp2_with fail
  try simp only [List.append_eq, List.cons_append, List.nil_append]
  have hB := Lib.hid (Nat.le_refl U11.heap.size)
  first | (go_region_held3 (fun w' => Below U11.heap.size U11 w')
      (first | (exact b12.drew) | (with_reducible assumption) | (exact Below.alloc (by with_reducible assumption) (Nat.le_trans hB.out (Below.size (by with_reducible assumption))) _) | (exact put2 (by with_reducible assumption) (Nat.le_refl _) _ _) | (exact put2 (by with_reducible assumption) hB.out _ _) | (exact put2 (by with_reducible assumption) (Nat.le_trans hB.out (Below.size (by with_reducible assumption))) _ _))
      (first | (go_at_call 20; (with_reducible refine (held (W := U11) hB.out (CMY.out _) (by assumption)).mono ?_); rintro e w'' ⟨rfl, hb, hw⟩; (first | (have hz := zc_made0 hb) | (have hz := zc_made hb) | skip); (try have hz := Zc.below (by assumption) hb); (try (have z0 := hz.c0; have z1 := hz.c1; have z2 := hz.f0; have z3 := hz.f1))) | (go_at_call 21; (with_reducible refine (held (W := U11) hB.out (CDG.out _) (by assumption)).mono ?_); rintro e w'' ⟨rfl, hb, hw⟩; (first | (have hz := zc_made0 hb) | (have hz := zc_made hb) | skip); (try have hz := Zc.below (by assumption) hb); (try (have z0 := hz.c0; have z1 := hz.c1; have z2 := hz.f0; have z3 := hz.f1))) | (go_at_call 11; (with_reducible refine (held (W := U11) hB.out (CR2.out _ (HT.out.below (by assumption))) (by assumption)).mono ?_); rintro e w'' ⟨rfl, hb, hw⟩; (first | (have hz := zc_made0 hb) | (have hz := zc_made hb) | skip); (try have hz := Zc.below (by assumption) hb); (try (have z0 := hz.c0; have z1 := hz.c1; have z2 := hz.f0; have z3 := hz.f1))))) | fail
  rename_i hH
  have b13 := hH
  clear hH hB
  go_wp2_with fail
  refine (CYX.out _).mono ?_
  rintro e w14 ⟨rfl, b⟩
  have b14 := Below.more b13 b
  clear b
  go_wp2_with fail
  go_ret
  exact ⟨ret_bool (by first | rfl | simp [*] | (simp; omega)), Below.more BW b14⟩
set_option maxRecDepth 100000 in
set_option maxHeartbeats 4000000 in
theorem near5_0n {x1 x2 g1 g2 y1 y2 q1 d1 d2 e1 e2 : List UInt8} {s sd k : Int} (w : World) (hs : ¬ s ≤ 0) (hd : sd < 0) (hk : k ≤ 0) (ht : GoodG w)
    (CG : Hid (∀ w, Calls Tryz.prog 15 #[.slice (some ⟨w.heap.size, 0, none⟩) 2 2] (w.alloc (.cells #[.string ⟨x1.toArray⟩, .string ⟨x2.toArray⟩, .string ⟨g1.toArray⟩, .string ⟨g2.toArray⟩] 23)) fun e w' => e = .returned (.bool true) ∧ Below w.heap.size w w'))
    (CS : Hid (∀ w, Calls Tryz.prog 16 #[.agg #[.string ⟨g1.toArray⟩, .string ⟨g2.toArray⟩]] w (GiveI w s)))
    (CR : Hid (∀ w, GoodG w → Calls Tryz.prog 11 #[.agg #[.string ⟨x1.toArray⟩, .string ⟨x2.toArray⟩], .agg #[.string ⟨g1.toArray⟩, .string ⟨g2.toArray⟩], .int .i64 0] w (GiveR w (y1, y2))))
    (CD : Hid (∀ w, Calls Tryz.prog 17 #[.agg #[.string ⟨y1.toArray⟩, .string ⟨y2.toArray⟩], .agg #[.string ⟨g1.toArray⟩, .string ⟨g2.toArray⟩]] w (GiveRB w ((q1, [49]), true))))
    (CB : Hid (∀ w, Calls Tryz.prog 18 #[.agg #[.string ⟨y1.toArray⟩, .string ⟨y2.toArray⟩], .agg #[.string ⟨x1.toArray⟩, .string ⟨x2.toArray⟩]] w (GiveR w (d1, d2))))
    (CSD : Hid (∀ w, Calls Tryz.prog 16 #[.agg #[.string ⟨d1.toArray⟩, .string ⟨d2.toArray⟩]] w (GiveI w sd)))
    (CNG : Hid (∀ w, Calls Tryz.prog 19 #[.agg #[.string ⟨d1.toArray⟩, .string ⟨d2.toArray⟩]] w (GiveR w (e1, e2))))
    (CMY : Hid (∀ w, Calls Tryz.prog 20 #[.agg #[.string ⟨y1.toArray⟩, .string ⟨y2.toArray⟩]] w (GiveB w true)))
    (CDG : Hid (∀ w, Calls Tryz.prog 21 #[.agg #[.string ⟨e1.toArray⟩, .string ⟨e2.toArray⟩], .agg #[.string ⟨g1.toArray⟩, .string ⟨g2.toArray⟩]] w (GiveI w (-1))))
    (CR2 : Hid (∀ w, GoodG w → Calls Tryz.prog 11 #[.agg #[.string ⟨y1.toArray⟩, .string ⟨y2.toArray⟩], .agg #[.string ⟨g1.toArray⟩, .string ⟨g2.toArray⟩], .int .i64 0] w (GiveR w (y1, y2))))
    (CYX : Hid (∀ w, Calls Tryz.prog 21 #[.agg #[.string ⟨y1.toArray⟩, .string ⟨y2.toArray⟩], .agg #[.string ⟨x1.toArray⟩, .string ⟨x2.toArray⟩]] w (GiveI w k))) :
    Calls Tryz.prog 4 #[.agg #[.string ⟨x1.toArray⟩, .string ⟨x2.toArray⟩], .agg #[.string ⟨g1.toArray⟩, .string ⟨g2.toArray⟩], .int .i64 0] w (GiveB w true) := by
  have HT := Lib.hid ht; clear ht
  go_enter Tryz.func4, Tryz.ntmps4
  go_wp2_with fail
  have BW := Below.refl w.heap.size w
  have b0 : Below w.heap.size w w := Below.refl _ _
  obtain ⟨U1, hU, bU, s1, rx0, rx1⟩ := lay b0 (.string ⟨x1.toArray⟩) (.string ⟨x2.toArray⟩) 23
  rw [hU]; clear hU
  replace BW := Below.more BW bU
  replace HT := Lib.hid (HT.out.below bU)
  clear bU
  have b1 := Below.refl U1.heap.size U1
  obtain ⟨U2, hU, bU, s2, ry0, ry1⟩ := lay b1 (.string ⟨g1.toArray⟩) (.string ⟨g2.toArray⟩) 23
  rw [hU]; clear hU
  rw [← s1] at ry0 ry1
  clear s2
  replace rx0 := fun v (h : Below U2.heap.size U2 v) => rx0 v (Below.more bU h)
  replace rx1 := fun v (h : Below U2.heap.size U2 v) => rx1 v (Below.more bU h)
  replace BW := Below.more BW bU
  replace HT := Lib.hid (HT.out.below bU)
  clear bU
  have b2 := Below.refl U2.heap.size U2
  clear s1
  go_wp2_with fail
  refine (fixed5_any _ (HT.out.below b2)).mono ?_
  rintro e w3 ⟨rfl, b⟩
  have b3 := Below.more b2 b
  clear b
  go_wp2_with fail
  refine (CG.out _).mono ?_
  rintro e w4 ⟨rfl, b⟩
  have b4 := Below.more b3 b
  clear b
  go_wp2_with fail
  refine (CS.out _).mono ?_
  rintro e w5 ⟨rfl, b⟩
  have b5 := Below.more b4 b
  clear b
  go_wp2_with fail
  refine (CR.out _ (HT.out.below b5)).mono ?_
  rintro e w6 ⟨rfl, b⟩
  have b6 := Below.more b5 b
  clear b
  have ba := fun x => Below.alloc b6 (Below.size b6) x
  go_wp2_with fail
  obtain ⟨U7, hU, bU, s7, rv0, rv1⟩ := lay b6 (.string ⟨y1.toArray⟩) (.string ⟨y2.toArray⟩) 23
  rw [hU]; clear hU
  clear s7
  replace rx0 := fun v (h : Below U7.heap.size U7 v) => rx0 v (Below.more bU h)
  replace rx1 := fun v (h : Below U7.heap.size U7 v) => rx1 v (Below.more bU h)
  replace ry0 := fun v (h : Below U7.heap.size U7 v) => ry0 v (Below.more bU h)
  replace ry1 := fun v (h : Below U7.heap.size U7 v) => ry1 v (Below.more bU h)
  replace BW := Below.more BW bU
  replace HT := Lib.hid (HT.out.below bU)
  clear bU
  have b7 := Below.refl U7.heap.size U7
  clear ba
  refine (CD.out _).mono ?_
  rintro e w8 ⟨rfl, b⟩
  have b8 := Below.more b7 b
  clear b
  have ba := fun x => Below.alloc b8 (Below.size b8) x
  go_wp2_with fail
  obtain ⟨U9, hU, bU, s9, rq0, rq1⟩ := lay b8 (.string ⟨q1.toArray⟩) (.string ⟨#[49]⟩) 23
  rw [hU]; clear hU
  clear s9
  replace rx0 := fun v (h : Below U9.heap.size U9 v) => rx0 v (Below.more bU h)
  replace rx1 := fun v (h : Below U9.heap.size U9 v) => rx1 v (Below.more bU h)
  replace ry0 := fun v (h : Below U9.heap.size U9 v) => ry0 v (Below.more bU h)
  replace ry1 := fun v (h : Below U9.heap.size U9 v) => ry1 v (Below.more bU h)
  replace rv0 := fun v (h : Below U9.heap.size U9 v) => rv0 v (Below.more bU h)
  replace rv1 := fun v (h : Below U9.heap.size U9 v) => rv1 v (Below.more bU h)
  replace BW := Below.more BW bU
  replace HT := Lib.hid (HT.out.below bU)
  clear bU
  have b9 := Below.refl U9.heap.size U9
  clear ba
  refine (CB.out _).mono ?_
  rintro e w10 ⟨rfl, b⟩
  have b10 := Below.more b9 b
  clear b
  have ba := fun x => Below.alloc b10 (Below.size b10) x
  go_wp2_with fail
  have hzd := zc_new w10 (.string ⟨d1.toArray⟩) (.string ⟨d2.toArray⟩) 23
  have hle := Below.size b10
  have BO := BW
  have HO := HT
  have orx0 := rx0
  have orx1 := rx1
  have ory0 := ry0
  have ory1 := ry1
  have orv0 := rv0
  have orv1 := rv1
  have orq0 := rq0
  have orq1 := rq1
  have bo := Below.step (.cells #[.string ⟨d1.toArray⟩, .string ⟨d2.toArray⟩] 23) (Below.refl (w10.alloc (.cells #[.string ⟨d1.toArray⟩, .string ⟨d2.toArray⟩] 23)).heap.size (w10.alloc (.cells #[.string ⟨d1.toArray⟩, .string ⟨d2.toArray⟩] 23)))
  have bo := Below.more b10 bo
  obtain ⟨U11, hU, bU, s11, rd0, rd1⟩ := lay b10 (.string ⟨d1.toArray⟩) (.string ⟨d2.toArray⟩) 23
  rw [hU] at hzd bo
  rw [hU]; clear hU s11
  replace rx0 := fun v (h : Below U11.heap.size U11 v) => rx0 v (Below.more bU h)
  replace rx1 := fun v (h : Below U11.heap.size U11 v) => rx1 v (Below.more bU h)
  replace ry0 := fun v (h : Below U11.heap.size U11 v) => ry0 v (Below.more bU h)
  replace ry1 := fun v (h : Below U11.heap.size U11 v) => ry1 v (Below.more bU h)
  replace rv0 := fun v (h : Below U11.heap.size U11 v) => rv0 v (Below.more bU h)
  replace rv1 := fun v (h : Below U11.heap.size U11 v) => rv1 v (Below.more bU h)
  replace rq0 := fun v (h : Below U11.heap.size U11 v) => rq0 v (Below.more bU h)
  replace rq1 := fun v (h : Below U11.heap.size U11 v) => rq1 v (Below.more bU h)
  replace BW := Below.more BW bU
  replace HT := Lib.hid (HT.out.below bU)
  clear bU
  have b11 := Below.refl U11.heap.size U11
  clear ba
  refine (CSD.out _).mono ?_
  rintro e w12 ⟨rfl, b⟩
  have b12 := Below.more b11 b
  clear b
  go_wp2_with fail
  refine (CNG.out _).mono ?_
  rintro e w13 ⟨rfl, b⟩
  have b13 := Below.more b12 b
  clear b
  have hz9 := hzd.below b13
  have z0 := hz9.c0
  have z1 := hz9.c1
  have z2 := hz9.f0
  have z3 := hz9.f1
  clear hz9
  go_wp2_with fail
  clear z0 z1 z2 z3
  obtain ⟨V, hV, bV, re0, re1⟩ := restore (hzd.below b13) (Below.more bo b13) hle (.string ⟨e1.toArray⟩) (.string ⟨e2.toArray⟩)
  rw [hV]; clear hV hzd hle bo rd0 rd1
  replace rx0 := fun v (h : Below V.heap.size V v) => orx0 v (Below.more bV h)
  clear orx0
  replace rx1 := fun v (h : Below V.heap.size V v) => orx1 v (Below.more bV h)
  clear orx1
  replace ry0 := fun v (h : Below V.heap.size V v) => ory0 v (Below.more bV h)
  clear ory0
  replace ry1 := fun v (h : Below V.heap.size V v) => ory1 v (Below.more bV h)
  clear ory1
  replace rv0 := fun v (h : Below V.heap.size V v) => orv0 v (Below.more bV h)
  clear orv0
  replace rv1 := fun v (h : Below V.heap.size V v) => orv1 v (Below.more bV h)
  clear orv1
  replace rq0 := fun v (h : Below V.heap.size V v) => orq0 v (Below.more bV h)
  clear orq0
  replace rq1 := fun v (h : Below V.heap.size V v) => orq1 v (Below.more bV h)
  clear orq1
  replace BW := Below.more BO bV
  replace HT := Lib.hid (HO.out.below bV)
  clear bV BO HO
  have b30 := Below.refl V.heap.size V
  try simp only [List.append_eq, List.cons_append, List.nil_append]
  have hB := Lib.hid (Nat.le_refl V.heap.size)
  first | (go_region_held3 (fun w' => Below V.heap.size V w')
      (first | (exact b30.drew) | (with_reducible assumption) | (exact Below.alloc (by with_reducible assumption) (Nat.le_trans hB.out (Below.size (by with_reducible assumption))) _) | (exact put2 (by with_reducible assumption) (Nat.le_refl _) _ _) | (exact put2 (by with_reducible assumption) hB.out _ _) | (exact put2 (by with_reducible assumption) (Nat.le_trans hB.out (Below.size (by with_reducible assumption))) _ _))
      (first | (go_at_call 20; (with_reducible refine (held (W := V) hB.out (CMY.out _) (by assumption)).mono ?_); rintro e w'' ⟨rfl, hb, hw⟩; (first | (have hz := zc_made0 hb) | (have hz := zc_made hb) | skip); (try have hz := Zc.below (by assumption) hb); (try (have z0 := hz.c0; have z1 := hz.c1; have z2 := hz.f0; have z3 := hz.f1))) | (go_at_call 21; (with_reducible refine (held (W := V) hB.out (CDG.out _) (by assumption)).mono ?_); rintro e w'' ⟨rfl, hb, hw⟩; (first | (have hz := zc_made0 hb) | (have hz := zc_made hb) | skip); (try have hz := Zc.below (by assumption) hb); (try (have z0 := hz.c0; have z1 := hz.c1; have z2 := hz.f0; have z3 := hz.f1))) | (go_at_call 11; (with_reducible refine (held (W := V) hB.out (CR2.out _ (HT.out.below (by assumption))) (by assumption)).mono ?_); rintro e w'' ⟨rfl, hb, hw⟩; (first | (have hz := zc_made0 hb) | (have hz := zc_made hb) | skip); (try have hz := Zc.below (by assumption) hb); (try (have z0 := hz.c0; have z1 := hz.c1; have z2 := hz.f0; have z3 := hz.f1))))) | fail
  rename_i hH
  have b31 := hH
  clear hH hB
  go_wp2_with fail
  refine (CYX.out _).mono ?_
  rintro e w32 ⟨rfl, b⟩
  have b32 := Below.more b31 b
  clear b
  go_wp2_with fail
  go_ret
  exact ⟨ret_bool (by first | rfl | simp [*] | (simp; omega)), Below.more BW b32⟩
set_option maxRecDepth 100000 in
set_option maxHeartbeats 4000000 in
theorem near5_1pn {x1 x2 g1 g2 y1 y2 q1 d1 d2 : List UInt8} {s sd k sx sy : Int} (w : World) (hs : ¬ s ≤ 0) (hd : ¬ sd < 0) (hx : sx < 0) (hk : 0 ≤ k) (hy : sy ≤ 0) (ht : GoodG w)
    (CG : Hid (∀ w, Calls Tryz.prog 15 #[.slice (some ⟨w.heap.size, 0, none⟩) 2 2] (w.alloc (.cells #[.string ⟨x1.toArray⟩, .string ⟨x2.toArray⟩, .string ⟨g1.toArray⟩, .string ⟨g2.toArray⟩] 23)) fun e w' => e = .returned (.bool true) ∧ Below w.heap.size w w'))
    (CS : Hid (∀ w, Calls Tryz.prog 16 #[.agg #[.string ⟨g1.toArray⟩, .string ⟨g2.toArray⟩]] w (GiveI w s)))
    (CR : Hid (∀ w, GoodG w → Calls Tryz.prog 11 #[.agg #[.string ⟨x1.toArray⟩, .string ⟨x2.toArray⟩], .agg #[.string ⟨g1.toArray⟩, .string ⟨g2.toArray⟩], .int .i64 1] w (GiveR w (y1, y2))))
    (CD : Hid (∀ w, Calls Tryz.prog 17 #[.agg #[.string ⟨y1.toArray⟩, .string ⟨y2.toArray⟩], .agg #[.string ⟨g1.toArray⟩, .string ⟨g2.toArray⟩]] w (GiveRB w ((q1, [49]), true))))
    (CB : Hid (∀ w, Calls Tryz.prog 18 #[.agg #[.string ⟨y1.toArray⟩, .string ⟨y2.toArray⟩], .agg #[.string ⟨x1.toArray⟩, .string ⟨x2.toArray⟩]] w (GiveR w (d1, d2))))
    (CSD : Hid (∀ w, Calls Tryz.prog 16 #[.agg #[.string ⟨d1.toArray⟩, .string ⟨d2.toArray⟩]] w (GiveI w sd)))
    (CMY : Hid (∀ w, Calls Tryz.prog 20 #[.agg #[.string ⟨y1.toArray⟩, .string ⟨y2.toArray⟩]] w (GiveB w true)))
    (CDG : Hid (∀ w, Calls Tryz.prog 21 #[.agg #[.string ⟨d1.toArray⟩, .string ⟨d2.toArray⟩], .agg #[.string ⟨g1.toArray⟩, .string ⟨g2.toArray⟩]] w (GiveI w (-1))))
    (CR2 : Hid (∀ w, GoodG w → Calls Tryz.prog 11 #[.agg #[.string ⟨y1.toArray⟩, .string ⟨y2.toArray⟩], .agg #[.string ⟨g1.toArray⟩, .string ⟨g2.toArray⟩], .int .i64 1] w (GiveR w (y1, y2))))
    (CSX : Hid (∀ w, Calls Tryz.prog 16 #[.agg #[.string ⟨x1.toArray⟩, .string ⟨x2.toArray⟩]] w (GiveI w sx)))
    (CYX : Hid (∀ w, Calls Tryz.prog 21 #[.agg #[.string ⟨y1.toArray⟩, .string ⟨y2.toArray⟩], .agg #[.string ⟨x1.toArray⟩, .string ⟨x2.toArray⟩]] w (GiveI w k)))
    (CSY : Hid (∀ w, Calls Tryz.prog 16 #[.agg #[.string ⟨y1.toArray⟩, .string ⟨y2.toArray⟩]] w (GiveI w sy))) :
    Calls Tryz.prog 4 #[.agg #[.string ⟨x1.toArray⟩, .string ⟨x2.toArray⟩], .agg #[.string ⟨g1.toArray⟩, .string ⟨g2.toArray⟩], .int .i64 1] w (GiveB w true) := by
  have HT := Lib.hid ht; clear ht
  go_enter Tryz.func4, Tryz.ntmps4
  go_wp2_with fail
  have BW := Below.refl w.heap.size w
  have b0 : Below w.heap.size w w := Below.refl _ _
  obtain ⟨U1, hU, bU, s1, rx0, rx1⟩ := lay b0 (.string ⟨x1.toArray⟩) (.string ⟨x2.toArray⟩) 23
  rw [hU]; clear hU
  replace BW := Below.more BW bU
  replace HT := Lib.hid (HT.out.below bU)
  clear bU
  have b1 := Below.refl U1.heap.size U1
  obtain ⟨U2, hU, bU, s2, ry0, ry1⟩ := lay b1 (.string ⟨g1.toArray⟩) (.string ⟨g2.toArray⟩) 23
  rw [hU]; clear hU
  rw [← s1] at ry0 ry1
  clear s2
  replace rx0 := fun v (h : Below U2.heap.size U2 v) => rx0 v (Below.more bU h)
  replace rx1 := fun v (h : Below U2.heap.size U2 v) => rx1 v (Below.more bU h)
  replace BW := Below.more BW bU
  replace HT := Lib.hid (HT.out.below bU)
  clear bU
  have b2 := Below.refl U2.heap.size U2
  clear s1
  go_wp2_with fail
  refine (fixed5_any _ (HT.out.below b2)).mono ?_
  rintro e w3 ⟨rfl, b⟩
  have b3 := Below.more b2 b
  clear b
  go_wp2_with fail
  refine (CG.out _).mono ?_
  rintro e w4 ⟨rfl, b⟩
  have b4 := Below.more b3 b
  clear b
  go_wp2_with fail
  refine (CS.out _).mono ?_
  rintro e w5 ⟨rfl, b⟩
  have b5 := Below.more b4 b
  clear b
  go_wp2_with fail
  refine (CR.out _ (HT.out.below b5)).mono ?_
  rintro e w6 ⟨rfl, b⟩
  have b6 := Below.more b5 b
  clear b
  have ba := fun x => Below.alloc b6 (Below.size b6) x
  go_wp2_with fail
  obtain ⟨U7, hU, bU, s7, rv0, rv1⟩ := lay b6 (.string ⟨y1.toArray⟩) (.string ⟨y2.toArray⟩) 23
  rw [hU]; clear hU
  clear s7
  replace rx0 := fun v (h : Below U7.heap.size U7 v) => rx0 v (Below.more bU h)
  replace rx1 := fun v (h : Below U7.heap.size U7 v) => rx1 v (Below.more bU h)
  replace ry0 := fun v (h : Below U7.heap.size U7 v) => ry0 v (Below.more bU h)
  replace ry1 := fun v (h : Below U7.heap.size U7 v) => ry1 v (Below.more bU h)
  replace BW := Below.more BW bU
  replace HT := Lib.hid (HT.out.below bU)
  clear bU
  have b7 := Below.refl U7.heap.size U7
  clear ba
  refine (CD.out _).mono ?_
  rintro e w8 ⟨rfl, b⟩
  have b8 := Below.more b7 b
  clear b
  have ba := fun x => Below.alloc b8 (Below.size b8) x
  go_wp2_with fail
  obtain ⟨U9, hU, bU, s9, rq0, rq1⟩ := lay b8 (.string ⟨q1.toArray⟩) (.string ⟨#[49]⟩) 23
  rw [hU]; clear hU
  clear s9
  replace rx0 := fun v (h : Below U9.heap.size U9 v) => rx0 v (Below.more bU h)
  replace rx1 := fun v (h : Below U9.heap.size U9 v) => rx1 v (Below.more bU h)
  replace ry0 := fun v (h : Below U9.heap.size U9 v) => ry0 v (Below.more bU h)
  replace ry1 := fun v (h : Below U9.heap.size U9 v) => ry1 v (Below.more bU h)
  replace rv0 := fun v (h : Below U9.heap.size U9 v) => rv0 v (Below.more bU h)
  replace rv1 := fun v (h : Below U9.heap.size U9 v) => rv1 v (Below.more bU h)
  replace BW := Below.more BW bU
  replace HT := Lib.hid (HT.out.below bU)
  clear bU
  have b9 := Below.refl U9.heap.size U9
  clear ba
  refine (CB.out _).mono ?_
  rintro e w10 ⟨rfl, b⟩
  have b10 := Below.more b9 b
  clear b
  have ba := fun x => Below.alloc b10 (Below.size b10) x
  go_wp2_with fail
  obtain ⟨U11, hU, bU, s11, rd0, rd1⟩ := lay b10 (.string ⟨d1.toArray⟩) (.string ⟨d2.toArray⟩) 23
  rw [hU]; clear hU
  clear s11
  replace rx0 := fun v (h : Below U11.heap.size U11 v) => rx0 v (Below.more bU h)
  replace rx1 := fun v (h : Below U11.heap.size U11 v) => rx1 v (Below.more bU h)
  replace ry0 := fun v (h : Below U11.heap.size U11 v) => ry0 v (Below.more bU h)
  replace ry1 := fun v (h : Below U11.heap.size U11 v) => ry1 v (Below.more bU h)
  replace rv0 := fun v (h : Below U11.heap.size U11 v) => rv0 v (Below.more bU h)
  replace rv1 := fun v (h : Below U11.heap.size U11 v) => rv1 v (Below.more bU h)
  replace rq0 := fun v (h : Below U11.heap.size U11 v) => rq0 v (Below.more bU h)
  replace rq1 := fun v (h : Below U11.heap.size U11 v) => rq1 v (Below.more bU h)
  replace BW := Below.more BW bU
  replace HT := Lib.hid (HT.out.below bU)
  clear bU
  have b11 := Below.refl U11.heap.size U11
  clear ba
  refine (CSD.out _).mono ?_
  rintro e w12 ⟨rfl, b⟩
  have b12 := Below.more b11 b
  clear b
  go_wp2_with fail
  try simp only [List.append_eq, List.cons_append, List.nil_append]
  have hB := Lib.hid (Nat.le_refl U11.heap.size)
  first | (go_region_held3 (fun w' => Below U11.heap.size U11 w')
      (first | (exact b12.drew) | (with_reducible assumption) | (exact Below.alloc (by with_reducible assumption) (Nat.le_trans hB.out (Below.size (by with_reducible assumption))) _) | (exact put2 (by with_reducible assumption) (Nat.le_refl _) _ _) | (exact put2 (by with_reducible assumption) hB.out _ _) | (exact put2 (by with_reducible assumption) (Nat.le_trans hB.out (Below.size (by with_reducible assumption))) _ _))
      (first | (go_at_call 20; (with_reducible refine (held (W := U11) hB.out (CMY.out _) (by assumption)).mono ?_); rintro e w'' ⟨rfl, hb, hw⟩; (first | (have hz := zc_made0 hb) | (have hz := zc_made hb) | skip); (try have hz := Zc.below (by assumption) hb); (try (have z0 := hz.c0; have z1 := hz.c1; have z2 := hz.f0; have z3 := hz.f1))) | (go_at_call 21; (with_reducible refine (held (W := U11) hB.out (CDG.out _) (by assumption)).mono ?_); rintro e w'' ⟨rfl, hb, hw⟩; (first | (have hz := zc_made0 hb) | (have hz := zc_made hb) | skip); (try have hz := Zc.below (by assumption) hb); (try (have z0 := hz.c0; have z1 := hz.c1; have z2 := hz.f0; have z3 := hz.f1))) | (go_at_call 11; (with_reducible refine (held (W := U11) hB.out (CR2.out _ (HT.out.below (by assumption))) (by assumption)).mono ?_); rintro e w'' ⟨rfl, hb, hw⟩; (first | (have hz := zc_made0 hb) | (have hz := zc_made hb) | skip); (try have hz := Zc.below (by assumption) hb); (try (have z0 := hz.c0; have z1 := hz.c1; have z2 := hz.f0; have z3 := hz.f1))))) | fail
  rename_i hH
  have b13 := hH
  clear hH hB
  go_wp2_with fail
  refine (CSX.out _).mono ?_
  rintro e w14 ⟨rfl, b⟩
  have b14 := Below.more b13 b
  clear b
  go_wp2_with fail
  refine (CYX.out _).mono ?_
  rintro e w15 ⟨rfl, b⟩
  have b15 := Below.more b14 b
  clear b
  go_wp2_with fail
  refine (CSY.out _).mono ?_
  rintro e w16 ⟨rfl, b⟩
  have b16 := Below.more b15 b
  clear b
  go_wp2_with fail
  go_ret
  exact ⟨ret_bool (by first | rfl | simp [*] | (simp; omega)), Below.more BW b16⟩
set_option maxRecDepth 100000 in
set_option maxHeartbeats 4000000 in
theorem near5_1pp {x1 x2 g1 g2 y1 y2 q1 d1 d2 : List UInt8} {s sd k sx sy : Int} (w : World) (hs : ¬ s ≤ 0) (hd : ¬ sd < 0) (hx : ¬ sx < 0) (hx2 : 0 ≤ sx) (hk : k ≤ 0) (hy : 0 ≤ sy) (ht : GoodG w)
    (CG : Hid (∀ w, Calls Tryz.prog 15 #[.slice (some ⟨w.heap.size, 0, none⟩) 2 2] (w.alloc (.cells #[.string ⟨x1.toArray⟩, .string ⟨x2.toArray⟩, .string ⟨g1.toArray⟩, .string ⟨g2.toArray⟩] 23)) fun e w' => e = .returned (.bool true) ∧ Below w.heap.size w w'))
    (CS : Hid (∀ w, Calls Tryz.prog 16 #[.agg #[.string ⟨g1.toArray⟩, .string ⟨g2.toArray⟩]] w (GiveI w s)))
    (CR : Hid (∀ w, GoodG w → Calls Tryz.prog 11 #[.agg #[.string ⟨x1.toArray⟩, .string ⟨x2.toArray⟩], .agg #[.string ⟨g1.toArray⟩, .string ⟨g2.toArray⟩], .int .i64 1] w (GiveR w (y1, y2))))
    (CD : Hid (∀ w, Calls Tryz.prog 17 #[.agg #[.string ⟨y1.toArray⟩, .string ⟨y2.toArray⟩], .agg #[.string ⟨g1.toArray⟩, .string ⟨g2.toArray⟩]] w (GiveRB w ((q1, [49]), true))))
    (CB : Hid (∀ w, Calls Tryz.prog 18 #[.agg #[.string ⟨y1.toArray⟩, .string ⟨y2.toArray⟩], .agg #[.string ⟨x1.toArray⟩, .string ⟨x2.toArray⟩]] w (GiveR w (d1, d2))))
    (CSD : Hid (∀ w, Calls Tryz.prog 16 #[.agg #[.string ⟨d1.toArray⟩, .string ⟨d2.toArray⟩]] w (GiveI w sd)))
    (CMY : Hid (∀ w, Calls Tryz.prog 20 #[.agg #[.string ⟨y1.toArray⟩, .string ⟨y2.toArray⟩]] w (GiveB w true)))
    (CDG : Hid (∀ w, Calls Tryz.prog 21 #[.agg #[.string ⟨d1.toArray⟩, .string ⟨d2.toArray⟩], .agg #[.string ⟨g1.toArray⟩, .string ⟨g2.toArray⟩]] w (GiveI w (-1))))
    (CR2 : Hid (∀ w, GoodG w → Calls Tryz.prog 11 #[.agg #[.string ⟨y1.toArray⟩, .string ⟨y2.toArray⟩], .agg #[.string ⟨g1.toArray⟩, .string ⟨g2.toArray⟩], .int .i64 1] w (GiveR w (y1, y2))))
    (CSX : Hid (∀ w, Calls Tryz.prog 16 #[.agg #[.string ⟨x1.toArray⟩, .string ⟨x2.toArray⟩]] w (GiveI w sx)))
    (CYX : Hid (∀ w, Calls Tryz.prog 21 #[.agg #[.string ⟨y1.toArray⟩, .string ⟨y2.toArray⟩], .agg #[.string ⟨x1.toArray⟩, .string ⟨x2.toArray⟩]] w (GiveI w k)))
    (CSY : Hid (∀ w, Calls Tryz.prog 16 #[.agg #[.string ⟨y1.toArray⟩, .string ⟨y2.toArray⟩]] w (GiveI w sy))) :
    Calls Tryz.prog 4 #[.agg #[.string ⟨x1.toArray⟩, .string ⟨x2.toArray⟩], .agg #[.string ⟨g1.toArray⟩, .string ⟨g2.toArray⟩], .int .i64 1] w (GiveB w true) := by
  have HT := Lib.hid ht; clear ht
  go_enter Tryz.func4, Tryz.ntmps4
  go_wp2_with fail
  have BW := Below.refl w.heap.size w
  have b0 : Below w.heap.size w w := Below.refl _ _
  obtain ⟨U1, hU, bU, s1, rx0, rx1⟩ := lay b0 (.string ⟨x1.toArray⟩) (.string ⟨x2.toArray⟩) 23
  rw [hU]; clear hU
  replace BW := Below.more BW bU
  replace HT := Lib.hid (HT.out.below bU)
  clear bU
  have b1 := Below.refl U1.heap.size U1
  obtain ⟨U2, hU, bU, s2, ry0, ry1⟩ := lay b1 (.string ⟨g1.toArray⟩) (.string ⟨g2.toArray⟩) 23
  rw [hU]; clear hU
  rw [← s1] at ry0 ry1
  clear s2
  replace rx0 := fun v (h : Below U2.heap.size U2 v) => rx0 v (Below.more bU h)
  replace rx1 := fun v (h : Below U2.heap.size U2 v) => rx1 v (Below.more bU h)
  replace BW := Below.more BW bU
  replace HT := Lib.hid (HT.out.below bU)
  clear bU
  have b2 := Below.refl U2.heap.size U2
  clear s1
  go_wp2_with fail
  refine (fixed5_any _ (HT.out.below b2)).mono ?_
  rintro e w3 ⟨rfl, b⟩
  have b3 := Below.more b2 b
  clear b
  go_wp2_with fail
  refine (CG.out _).mono ?_
  rintro e w4 ⟨rfl, b⟩
  have b4 := Below.more b3 b
  clear b
  go_wp2_with fail
  refine (CS.out _).mono ?_
  rintro e w5 ⟨rfl, b⟩
  have b5 := Below.more b4 b
  clear b
  go_wp2_with fail
  refine (CR.out _ (HT.out.below b5)).mono ?_
  rintro e w6 ⟨rfl, b⟩
  have b6 := Below.more b5 b
  clear b
  have ba := fun x => Below.alloc b6 (Below.size b6) x
  go_wp2_with fail
  obtain ⟨U7, hU, bU, s7, rv0, rv1⟩ := lay b6 (.string ⟨y1.toArray⟩) (.string ⟨y2.toArray⟩) 23
  rw [hU]; clear hU
  clear s7
  replace rx0 := fun v (h : Below U7.heap.size U7 v) => rx0 v (Below.more bU h)
  replace rx1 := fun v (h : Below U7.heap.size U7 v) => rx1 v (Below.more bU h)
  replace ry0 := fun v (h : Below U7.heap.size U7 v) => ry0 v (Below.more bU h)
  replace ry1 := fun v (h : Below U7.heap.size U7 v) => ry1 v (Below.more bU h)
  replace BW := Below.more BW bU
  replace HT := Lib.hid (HT.out.below bU)
  clear bU
  have b7 := Below.refl U7.heap.size U7
  clear ba
  refine (CD.out _).mono ?_
  rintro e w8 ⟨rfl, b⟩
  have b8 := Below.more b7 b
  clear b
  have ba := fun x => Below.alloc b8 (Below.size b8) x
  go_wp2_with fail
  obtain ⟨U9, hU, bU, s9, rq0, rq1⟩ := lay b8 (.string ⟨q1.toArray⟩) (.string ⟨#[49]⟩) 23
  rw [hU]; clear hU
  clear s9
  replace rx0 := fun v (h : Below U9.heap.size U9 v) => rx0 v (Below.more bU h)
  replace rx1 := fun v (h : Below U9.heap.size U9 v) => rx1 v (Below.more bU h)
  replace ry0 := fun v (h : Below U9.heap.size U9 v) => ry0 v (Below.more bU h)
  replace ry1 := fun v (h : Below U9.heap.size U9 v) => ry1 v (Below.more bU h)
  replace rv0 := fun v (h : Below U9.heap.size U9 v) => rv0 v (Below.more bU h)
  replace rv1 := fun v (h : Below U9.heap.size U9 v) => rv1 v (Below.more bU h)
  replace BW := Below.more BW bU
  replace HT := Lib.hid (HT.out.below bU)
  clear bU
  have b9 := Below.refl U9.heap.size U9
  clear ba
  refine (CB.out _).mono ?_
  rintro e w10 ⟨rfl, b⟩
  have b10 := Below.more b9 b
  clear b
  have ba := fun x => Below.alloc b10 (Below.size b10) x
  go_wp2_with fail
  obtain ⟨U11, hU, bU, s11, rd0, rd1⟩ := lay b10 (.string ⟨d1.toArray⟩) (.string ⟨d2.toArray⟩) 23
  rw [hU]; clear hU
  clear s11
  replace rx0 := fun v (h : Below U11.heap.size U11 v) => rx0 v (Below.more bU h)
  replace rx1 := fun v (h : Below U11.heap.size U11 v) => rx1 v (Below.more bU h)
  replace ry0 := fun v (h : Below U11.heap.size U11 v) => ry0 v (Below.more bU h)
  replace ry1 := fun v (h : Below U11.heap.size U11 v) => ry1 v (Below.more bU h)
  replace rv0 := fun v (h : Below U11.heap.size U11 v) => rv0 v (Below.more bU h)
  replace rv1 := fun v (h : Below U11.heap.size U11 v) => rv1 v (Below.more bU h)
  replace rq0 := fun v (h : Below U11.heap.size U11 v) => rq0 v (Below.more bU h)
  replace rq1 := fun v (h : Below U11.heap.size U11 v) => rq1 v (Below.more bU h)
  replace BW := Below.more BW bU
  replace HT := Lib.hid (HT.out.below bU)
  clear bU
  have b11 := Below.refl U11.heap.size U11
  clear ba
  refine (CSD.out _).mono ?_
  rintro e w12 ⟨rfl, b⟩
  have b12 := Below.more b11 b
  clear b
  go_wp2_with fail
  try simp only [List.append_eq, List.cons_append, List.nil_append]
  have hB := Lib.hid (Nat.le_refl U11.heap.size)
  first | (go_region_held3 (fun w' => Below U11.heap.size U11 w')
      (first | (exact b12.drew) | (with_reducible assumption) | (exact Below.alloc (by with_reducible assumption) (Nat.le_trans hB.out (Below.size (by with_reducible assumption))) _) | (exact put2 (by with_reducible assumption) (Nat.le_refl _) _ _) | (exact put2 (by with_reducible assumption) hB.out _ _) | (exact put2 (by with_reducible assumption) (Nat.le_trans hB.out (Below.size (by with_reducible assumption))) _ _))
      (first | (go_at_call 20; (with_reducible refine (held (W := U11) hB.out (CMY.out _) (by assumption)).mono ?_); rintro e w'' ⟨rfl, hb, hw⟩; (first | (have hz := zc_made0 hb) | (have hz := zc_made hb) | skip); (try have hz := Zc.below (by assumption) hb); (try (have z0 := hz.c0; have z1 := hz.c1; have z2 := hz.f0; have z3 := hz.f1))) | (go_at_call 21; (with_reducible refine (held (W := U11) hB.out (CDG.out _) (by assumption)).mono ?_); rintro e w'' ⟨rfl, hb, hw⟩; (first | (have hz := zc_made0 hb) | (have hz := zc_made hb) | skip); (try have hz := Zc.below (by assumption) hb); (try (have z0 := hz.c0; have z1 := hz.c1; have z2 := hz.f0; have z3 := hz.f1))) | (go_at_call 11; (with_reducible refine (held (W := U11) hB.out (CR2.out _ (HT.out.below (by assumption))) (by assumption)).mono ?_); rintro e w'' ⟨rfl, hb, hw⟩; (first | (have hz := zc_made0 hb) | (have hz := zc_made hb) | skip); (try have hz := Zc.below (by assumption) hb); (try (have z0 := hz.c0; have z1 := hz.c1; have z2 := hz.f0; have z3 := hz.f1))))) | fail
  rename_i hH
  have b13 := hH
  clear hH hB
  go_wp2_with fail
  refine (CSX.out _).mono ?_
  rintro e w14 ⟨rfl, b⟩
  have b14 := Below.more b13 b
  clear b
  go_wp2_with fail
  refine (CSX.out _).mono ?_
  rintro e w15 ⟨rfl, b⟩
  have b15 := Below.more b14 b
  clear b
  go_wp2_with fail
  refine (CYX.out _).mono ?_
  rintro e w16 ⟨rfl, b⟩
  have b16 := Below.more b15 b
  clear b
  go_wp2_with fail
  refine (CSY.out _).mono ?_
  rintro e w17 ⟨rfl, b⟩
  have b17 := Below.more b16 b
  clear b
  go_wp2_with fail
  go_ret
  exact ⟨ret_bool (by first | rfl | simp [*] | (simp; omega)), Below.more BW b17⟩
set_option maxRecDepth 100000 in
set_option maxHeartbeats 4000000 in
theorem near5_1nn {x1 x2 g1 g2 y1 y2 q1 d1 d2 e1 e2 : List UInt8} {s sd k sx sy : Int} (w : World) (hs : ¬ s ≤ 0) (hd : sd < 0) (hx : sx < 0) (hk : 0 ≤ k) (hy : sy ≤ 0) (ht : GoodG w)
    (CG : Hid (∀ w, Calls Tryz.prog 15 #[.slice (some ⟨w.heap.size, 0, none⟩) 2 2] (w.alloc (.cells #[.string ⟨x1.toArray⟩, .string ⟨x2.toArray⟩, .string ⟨g1.toArray⟩, .string ⟨g2.toArray⟩] 23)) fun e w' => e = .returned (.bool true) ∧ Below w.heap.size w w'))
    (CS : Hid (∀ w, Calls Tryz.prog 16 #[.agg #[.string ⟨g1.toArray⟩, .string ⟨g2.toArray⟩]] w (GiveI w s)))
    (CR : Hid (∀ w, GoodG w → Calls Tryz.prog 11 #[.agg #[.string ⟨x1.toArray⟩, .string ⟨x2.toArray⟩], .agg #[.string ⟨g1.toArray⟩, .string ⟨g2.toArray⟩], .int .i64 1] w (GiveR w (y1, y2))))
    (CD : Hid (∀ w, Calls Tryz.prog 17 #[.agg #[.string ⟨y1.toArray⟩, .string ⟨y2.toArray⟩], .agg #[.string ⟨g1.toArray⟩, .string ⟨g2.toArray⟩]] w (GiveRB w ((q1, [49]), true))))
    (CB : Hid (∀ w, Calls Tryz.prog 18 #[.agg #[.string ⟨y1.toArray⟩, .string ⟨y2.toArray⟩], .agg #[.string ⟨x1.toArray⟩, .string ⟨x2.toArray⟩]] w (GiveR w (d1, d2))))
    (CSD : Hid (∀ w, Calls Tryz.prog 16 #[.agg #[.string ⟨d1.toArray⟩, .string ⟨d2.toArray⟩]] w (GiveI w sd)))
    (CNG : Hid (∀ w, Calls Tryz.prog 19 #[.agg #[.string ⟨d1.toArray⟩, .string ⟨d2.toArray⟩]] w (GiveR w (e1, e2))))
    (CMY : Hid (∀ w, Calls Tryz.prog 20 #[.agg #[.string ⟨y1.toArray⟩, .string ⟨y2.toArray⟩]] w (GiveB w true)))
    (CDG : Hid (∀ w, Calls Tryz.prog 21 #[.agg #[.string ⟨e1.toArray⟩, .string ⟨e2.toArray⟩], .agg #[.string ⟨g1.toArray⟩, .string ⟨g2.toArray⟩]] w (GiveI w (-1))))
    (CR2 : Hid (∀ w, GoodG w → Calls Tryz.prog 11 #[.agg #[.string ⟨y1.toArray⟩, .string ⟨y2.toArray⟩], .agg #[.string ⟨g1.toArray⟩, .string ⟨g2.toArray⟩], .int .i64 1] w (GiveR w (y1, y2))))
    (CSX : Hid (∀ w, Calls Tryz.prog 16 #[.agg #[.string ⟨x1.toArray⟩, .string ⟨x2.toArray⟩]] w (GiveI w sx)))
    (CYX : Hid (∀ w, Calls Tryz.prog 21 #[.agg #[.string ⟨y1.toArray⟩, .string ⟨y2.toArray⟩], .agg #[.string ⟨x1.toArray⟩, .string ⟨x2.toArray⟩]] w (GiveI w k)))
    (CSY : Hid (∀ w, Calls Tryz.prog 16 #[.agg #[.string ⟨y1.toArray⟩, .string ⟨y2.toArray⟩]] w (GiveI w sy))) :
    Calls Tryz.prog 4 #[.agg #[.string ⟨x1.toArray⟩, .string ⟨x2.toArray⟩], .agg #[.string ⟨g1.toArray⟩, .string ⟨g2.toArray⟩], .int .i64 1] w (GiveB w true) := by
  have HT := Lib.hid ht; clear ht
  go_enter Tryz.func4, Tryz.ntmps4
  go_wp2_with fail
  have BW := Below.refl w.heap.size w
  have b0 : Below w.heap.size w w := Below.refl _ _
  obtain ⟨U1, hU, bU, s1, rx0, rx1⟩ := lay b0 (.string ⟨x1.toArray⟩) (.string ⟨x2.toArray⟩) 23
  rw [hU]; clear hU
  replace BW := Below.more BW bU
  replace HT := Lib.hid (HT.out.below bU)
  clear bU
  have b1 := Below.refl U1.heap.size U1
  obtain ⟨U2, hU, bU, s2, ry0, ry1⟩ := lay b1 (.string ⟨g1.toArray⟩) (.string ⟨g2.toArray⟩) 23
  rw [hU]; clear hU
  rw [← s1] at ry0 ry1
  clear s2
  replace rx0 := fun v (h : Below U2.heap.size U2 v) => rx0 v (Below.more bU h)
  replace rx1 := fun v (h : Below U2.heap.size U2 v) => rx1 v (Below.more bU h)
  replace BW := Below.more BW bU
  replace HT := Lib.hid (HT.out.below bU)
  clear bU
  have b2 := Below.refl U2.heap.size U2
  clear s1
  go_wp2_with fail
  refine (fixed5_any _ (HT.out.below b2)).mono ?_
  rintro e w3 ⟨rfl, b⟩
  have b3 := Below.more b2 b
  clear b
  go_wp2_with fail
  refine (CG.out _).mono ?_
  rintro e w4 ⟨rfl, b⟩
  have b4 := Below.more b3 b
  clear b
  go_wp2_with fail
  refine (CS.out _).mono ?_
  rintro e w5 ⟨rfl, b⟩
  have b5 := Below.more b4 b
  clear b
  go_wp2_with fail
  refine (CR.out _ (HT.out.below b5)).mono ?_
  rintro e w6 ⟨rfl, b⟩
  have b6 := Below.more b5 b
  clear b
  have ba := fun x => Below.alloc b6 (Below.size b6) x
  go_wp2_with fail
  obtain ⟨U7, hU, bU, s7, rv0, rv1⟩ := lay b6 (.string ⟨y1.toArray⟩) (.string ⟨y2.toArray⟩) 23
  rw [hU]; clear hU
  clear s7
  replace rx0 := fun v (h : Below U7.heap.size U7 v) => rx0 v (Below.more bU h)
  replace rx1 := fun v (h : Below U7.heap.size U7 v) => rx1 v (Below.more bU h)
  replace ry0 := fun v (h : Below U7.heap.size U7 v) => ry0 v (Below.more bU h)
  replace ry1 := fun v (h : Below U7.heap.size U7 v) => ry1 v (Below.more bU h)
  replace BW := Below.more BW bU
  replace HT := Lib.hid (HT.out.below bU)
  clear bU
  have b7 := Below.refl U7.heap.size U7
  clear ba
  refine (CD.out _).mono ?_
  rintro e w8 ⟨rfl, b⟩
  have b8 := Below.more b7 b
  clear b
  have ba := fun x => Below.alloc b8 (Below.size b8) x
  go_wp2_with fail
  obtain ⟨U9, hU, bU, s9, rq0, rq1⟩ := lay b8 (.string ⟨q1.toArray⟩) (.string ⟨#[49]⟩) 23
  rw [hU]; clear hU
  clear s9
  replace rx0 := fun v (h : Below U9.heap.size U9 v) => rx0 v (Below.more bU h)
  replace rx1 := fun v (h : Below U9.heap.size U9 v) => rx1 v (Below.more bU h)
  replace ry0 := fun v (h : Below U9.heap.size U9 v) => ry0 v (Below.more bU h)
  replace ry1 := fun v (h : Below U9.heap.size U9 v) => ry1 v (Below.more bU h)
  replace rv0 := fun v (h : Below U9.heap.size U9 v) => rv0 v (Below.more bU h)
  replace rv1 := fun v (h : Below U9.heap.size U9 v) => rv1 v (Below.more bU h)
  replace BW := Below.more BW bU
  replace HT := Lib.hid (HT.out.below bU)
  clear bU
  have b9 := Below.refl U9.heap.size U9
  clear ba
  refine (CB.out _).mono ?_
  rintro e w10 ⟨rfl, b⟩
  have b10 := Below.more b9 b
  clear b
  have ba := fun x => Below.alloc b10 (Below.size b10) x
  go_wp2_with fail
  have hzd := zc_new w10 (.string ⟨d1.toArray⟩) (.string ⟨d2.toArray⟩) 23
  have hle := Below.size b10
  have BO := BW
  have HO := HT
  have orx0 := rx0
  have orx1 := rx1
  have ory0 := ry0
  have ory1 := ry1
  have orv0 := rv0
  have orv1 := rv1
  have orq0 := rq0
  have orq1 := rq1
  have bo := Below.step (.cells #[.string ⟨d1.toArray⟩, .string ⟨d2.toArray⟩] 23) (Below.refl (w10.alloc (.cells #[.string ⟨d1.toArray⟩, .string ⟨d2.toArray⟩] 23)).heap.size (w10.alloc (.cells #[.string ⟨d1.toArray⟩, .string ⟨d2.toArray⟩] 23)))
  have bo := Below.more b10 bo
  obtain ⟨U11, hU, bU, s11, rd0, rd1⟩ := lay b10 (.string ⟨d1.toArray⟩) (.string ⟨d2.toArray⟩) 23
  rw [hU] at hzd bo
  rw [hU]; clear hU s11
  replace rx0 := fun v (h : Below U11.heap.size U11 v) => rx0 v (Below.more bU h)
  replace rx1 := fun v (h : Below U11.heap.size U11 v) => rx1 v (Below.more bU h)
  replace ry0 := fun v (h : Below U11.heap.size U11 v) => ry0 v (Below.more bU h)
  replace ry1 := fun v (h : Below U11.heap.size U11 v) => ry1 v (Below.more bU h)
  replace rv0 := fun v (h : Below U11.heap.size U11 v) => rv0 v (Below.more bU h)
  replace rv1 := fun v (h : Below U11.heap.size U11 v) => rv1 v (Below.more bU h)
  replace rq0 := fun v (h : Below U11.heap.size U11 v) => rq0 v (Below.more bU h)
  replace rq1 := fun v (h : Below U11.heap.size U11 v) => rq1 v (Below.more bU h)
  replace BW := Below.more BW bU
  replace HT := Lib.hid (HT.out.below bU)
  clear bU
  have b11 := Below.refl U11.heap.size U11
  clear ba
  refine (CSD.out _).mono ?_
  rintro e w12 ⟨rfl, b⟩
  have b12 := Below.more b11 b
  clear b
  go_wp2_with fail
  refine (CNG.out _).mono ?_
  rintro e w13 ⟨rfl, b⟩
  have b13 := Below.more b12 b
  clear b
  have hz9 := hzd.below b13
  have z0 := hz9.c0
  have z1 := hz9.c1
  have z2 := hz9.f0
  have z3 := hz9.f1
  clear hz9
  go_wp2_with fail
  clear z0 z1 z2 z3
  obtain ⟨V, hV, bV, re0, re1⟩ := restore (hzd.below b13) (Below.more bo b13) hle (.string ⟨e1.toArray⟩) (.string ⟨e2.toArray⟩)
  rw [hV]; clear hV hzd hle bo rd0 rd1
  replace rx0 := fun v (h : Below V.heap.size V v) => orx0 v (Below.more bV h)
  clear orx0
  replace rx1 := fun v (h : Below V.heap.size V v) => orx1 v (Below.more bV h)
  clear orx1
  replace ry0 := fun v (h : Below V.heap.size V v) => ory0 v (Below.more bV h)
  clear ory0
  replace ry1 := fun v (h : Below V.heap.size V v) => ory1 v (Below.more bV h)
  clear ory1
  replace rv0 := fun v (h : Below V.heap.size V v) => orv0 v (Below.more bV h)
  clear orv0
  replace rv1 := fun v (h : Below V.heap.size V v) => orv1 v (Below.more bV h)
  clear orv1
  replace rq0 := fun v (h : Below V.heap.size V v) => orq0 v (Below.more bV h)
  clear orq0
  replace rq1 := fun v (h : Below V.heap.size V v) => orq1 v (Below.more bV h)
  clear orq1
  replace BW := Below.more BO bV
  replace HT := Lib.hid (HO.out.below bV)
  clear bV BO HO
  have b30 := Below.refl V.heap.size V
  try simp only [List.append_eq, List.cons_append, List.nil_append]
  have hB := Lib.hid (Nat.le_refl V.heap.size)
  first | (go_region_held3 (fun w' => Below V.heap.size V w')
      (first | (exact b30.drew) | (with_reducible assumption) | (exact Below.alloc (by with_reducible assumption) (Nat.le_trans hB.out (Below.size (by with_reducible assumption))) _) | (exact put2 (by with_reducible assumption) (Nat.le_refl _) _ _) | (exact put2 (by with_reducible assumption) hB.out _ _) | (exact put2 (by with_reducible assumption) (Nat.le_trans hB.out (Below.size (by with_reducible assumption))) _ _))
      (first | (go_at_call 20; (with_reducible refine (held (W := V) hB.out (CMY.out _) (by assumption)).mono ?_); rintro e w'' ⟨rfl, hb, hw⟩; (first | (have hz := zc_made0 hb) | (have hz := zc_made hb) | skip); (try have hz := Zc.below (by assumption) hb); (try (have z0 := hz.c0; have z1 := hz.c1; have z2 := hz.f0; have z3 := hz.f1))) | (go_at_call 21; (with_reducible refine (held (W := V) hB.out (CDG.out _) (by assumption)).mono ?_); rintro e w'' ⟨rfl, hb, hw⟩; (first | (have hz := zc_made0 hb) | (have hz := zc_made hb) | skip); (try have hz := Zc.below (by assumption) hb); (try (have z0 := hz.c0; have z1 := hz.c1; have z2 := hz.f0; have z3 := hz.f1))) | (go_at_call 11; (with_reducible refine (held (W := V) hB.out (CR2.out _ (HT.out.below (by assumption))) (by assumption)).mono ?_); rintro e w'' ⟨rfl, hb, hw⟩; (first | (have hz := zc_made0 hb) | (have hz := zc_made hb) | skip); (try have hz := Zc.below (by assumption) hb); (try (have z0 := hz.c0; have z1 := hz.c1; have z2 := hz.f0; have z3 := hz.f1))))) | fail
  rename_i hH
  have b31 := hH
  clear hH hB
  go_wp2_with fail
  refine (CSX.out _).mono ?_
  rintro e w32 ⟨rfl, b⟩
  have b32 := Below.more b31 b
  clear b
  go_wp2_with fail
  refine (CYX.out _).mono ?_
  rintro e w33 ⟨rfl, b⟩
  have b33 := Below.more b32 b
  clear b
  go_wp2_with fail
  refine (CSY.out _).mono ?_
  rintro e w34 ⟨rfl, b⟩
  have b34 := Below.more b33 b
  clear b
  go_wp2_with fail
  go_ret
  exact ⟨ret_bool (by first | rfl | simp [*] | (simp; omega)), Below.more BW b34⟩
set_option maxRecDepth 100000 in
set_option maxHeartbeats 4000000 in
theorem near5_1np {x1 x2 g1 g2 y1 y2 q1 d1 d2 e1 e2 : List UInt8} {s sd k sx sy : Int} (w : World) (hs : ¬ s ≤ 0) (hd : sd < 0) (hx : ¬ sx < 0) (hx2 : 0 ≤ sx) (hk : k ≤ 0) (hy : 0 ≤ sy) (ht : GoodG w)
    (CG : Hid (∀ w, Calls Tryz.prog 15 #[.slice (some ⟨w.heap.size, 0, none⟩) 2 2] (w.alloc (.cells #[.string ⟨x1.toArray⟩, .string ⟨x2.toArray⟩, .string ⟨g1.toArray⟩, .string ⟨g2.toArray⟩] 23)) fun e w' => e = .returned (.bool true) ∧ Below w.heap.size w w'))
    (CS : Hid (∀ w, Calls Tryz.prog 16 #[.agg #[.string ⟨g1.toArray⟩, .string ⟨g2.toArray⟩]] w (GiveI w s)))
    (CR : Hid (∀ w, GoodG w → Calls Tryz.prog 11 #[.agg #[.string ⟨x1.toArray⟩, .string ⟨x2.toArray⟩], .agg #[.string ⟨g1.toArray⟩, .string ⟨g2.toArray⟩], .int .i64 1] w (GiveR w (y1, y2))))
    (CD : Hid (∀ w, Calls Tryz.prog 17 #[.agg #[.string ⟨y1.toArray⟩, .string ⟨y2.toArray⟩], .agg #[.string ⟨g1.toArray⟩, .string ⟨g2.toArray⟩]] w (GiveRB w ((q1, [49]), true))))
    (CB : Hid (∀ w, Calls Tryz.prog 18 #[.agg #[.string ⟨y1.toArray⟩, .string ⟨y2.toArray⟩], .agg #[.string ⟨x1.toArray⟩, .string ⟨x2.toArray⟩]] w (GiveR w (d1, d2))))
    (CSD : Hid (∀ w, Calls Tryz.prog 16 #[.agg #[.string ⟨d1.toArray⟩, .string ⟨d2.toArray⟩]] w (GiveI w sd)))
    (CNG : Hid (∀ w, Calls Tryz.prog 19 #[.agg #[.string ⟨d1.toArray⟩, .string ⟨d2.toArray⟩]] w (GiveR w (e1, e2))))
    (CMY : Hid (∀ w, Calls Tryz.prog 20 #[.agg #[.string ⟨y1.toArray⟩, .string ⟨y2.toArray⟩]] w (GiveB w true)))
    (CDG : Hid (∀ w, Calls Tryz.prog 21 #[.agg #[.string ⟨e1.toArray⟩, .string ⟨e2.toArray⟩], .agg #[.string ⟨g1.toArray⟩, .string ⟨g2.toArray⟩]] w (GiveI w (-1))))
    (CR2 : Hid (∀ w, GoodG w → Calls Tryz.prog 11 #[.agg #[.string ⟨y1.toArray⟩, .string ⟨y2.toArray⟩], .agg #[.string ⟨g1.toArray⟩, .string ⟨g2.toArray⟩], .int .i64 1] w (GiveR w (y1, y2))))
    (CSX : Hid (∀ w, Calls Tryz.prog 16 #[.agg #[.string ⟨x1.toArray⟩, .string ⟨x2.toArray⟩]] w (GiveI w sx)))
    (CYX : Hid (∀ w, Calls Tryz.prog 21 #[.agg #[.string ⟨y1.toArray⟩, .string ⟨y2.toArray⟩], .agg #[.string ⟨x1.toArray⟩, .string ⟨x2.toArray⟩]] w (GiveI w k)))
    (CSY : Hid (∀ w, Calls Tryz.prog 16 #[.agg #[.string ⟨y1.toArray⟩, .string ⟨y2.toArray⟩]] w (GiveI w sy))) :
    Calls Tryz.prog 4 #[.agg #[.string ⟨x1.toArray⟩, .string ⟨x2.toArray⟩], .agg #[.string ⟨g1.toArray⟩, .string ⟨g2.toArray⟩], .int .i64 1] w (GiveB w true) := by
  have HT := Lib.hid ht; clear ht
  go_enter Tryz.func4, Tryz.ntmps4
  go_wp2_with fail
  have BW := Below.refl w.heap.size w
  have b0 : Below w.heap.size w w := Below.refl _ _
  obtain ⟨U1, hU, bU, s1, rx0, rx1⟩ := lay b0 (.string ⟨x1.toArray⟩) (.string ⟨x2.toArray⟩) 23
  rw [hU]; clear hU
  replace BW := Below.more BW bU
  replace HT := Lib.hid (HT.out.below bU)
  clear bU
  have b1 := Below.refl U1.heap.size U1
  obtain ⟨U2, hU, bU, s2, ry0, ry1⟩ := lay b1 (.string ⟨g1.toArray⟩) (.string ⟨g2.toArray⟩) 23
  rw [hU]; clear hU
  rw [← s1] at ry0 ry1
  clear s2
  replace rx0 := fun v (h : Below U2.heap.size U2 v) => rx0 v (Below.more bU h)
  replace rx1 := fun v (h : Below U2.heap.size U2 v) => rx1 v (Below.more bU h)
  replace BW := Below.more BW bU
  replace HT := Lib.hid (HT.out.below bU)
  clear bU
  have b2 := Below.refl U2.heap.size U2
  clear s1
  go_wp2_with fail
  refine (fixed5_any _ (HT.out.below b2)).mono ?_
  rintro e w3 ⟨rfl, b⟩
  have b3 := Below.more b2 b
  clear b
  go_wp2_with fail
  refine (CG.out _).mono ?_
  rintro e w4 ⟨rfl, b⟩
  have b4 := Below.more b3 b
  clear b
  go_wp2_with fail
  refine (CS.out _).mono ?_
  rintro e w5 ⟨rfl, b⟩
  have b5 := Below.more b4 b
  clear b
  go_wp2_with fail
  refine (CR.out _ (HT.out.below b5)).mono ?_
  rintro e w6 ⟨rfl, b⟩
  have b6 := Below.more b5 b
  clear b
  have ba := fun x => Below.alloc b6 (Below.size b6) x
  go_wp2_with fail
  obtain ⟨U7, hU, bU, s7, rv0, rv1⟩ := lay b6 (.string ⟨y1.toArray⟩) (.string ⟨y2.toArray⟩) 23
  rw [hU]; clear hU
  clear s7
  replace rx0 := fun v (h : Below U7.heap.size U7 v) => rx0 v (Below.more bU h)
  replace rx1 := fun v (h : Below U7.heap.size U7 v) => rx1 v (Below.more bU h)
  replace ry0 := fun v (h : Below U7.heap.size U7 v) => ry0 v (Below.more bU h)
  replace ry1 := fun v (h : Below U7.heap.size U7 v) => ry1 v (Below.more bU h)
  replace BW := Below.more BW bU
  replace HT := Lib.hid (HT.out.below bU)
  clear bU
  have b7 := Below.refl U7.heap.size U7
  clear ba
  refine (CD.out _).mono ?_
  rintro e w8 ⟨rfl, b⟩
  have b8 := Below.more b7 b
  clear b
  have ba := fun x => Below.alloc b8 (Below.size b8) x
  go_wp2_with fail
  obtain ⟨U9, hU, bU, s9, rq0, rq1⟩ := lay b8 (.string ⟨q1.toArray⟩) (.string ⟨#[49]⟩) 23
  rw [hU]; clear hU
  clear s9
  replace rx0 := fun v (h : Below U9.heap.size U9 v) => rx0 v (Below.more bU h)
  replace rx1 := fun v (h : Below U9.heap.size U9 v) => rx1 v (Below.more bU h)
  replace ry0 := fun v (h : Below U9.heap.size U9 v) => ry0 v (Below.more bU h)
  replace ry1 := fun v (h : Below U9.heap.size U9 v) => ry1 v (Below.more bU h)
  replace rv0 := fun v (h : Below U9.heap.size U9 v) => rv0 v (Below.more bU h)
  replace rv1 := fun v (h : Below U9.heap.size U9 v) => rv1 v (Below.more bU h)
  replace BW := Below.more BW bU
  replace HT := Lib.hid (HT.out.below bU)
  clear bU
  have b9 := Below.refl U9.heap.size U9
  clear ba
  refine (CB.out _).mono ?_
  rintro e w10 ⟨rfl, b⟩
  have b10 := Below.more b9 b
  clear b
  have ba := fun x => Below.alloc b10 (Below.size b10) x
  go_wp2_with fail
  have hzd := zc_new w10 (.string ⟨d1.toArray⟩) (.string ⟨d2.toArray⟩) 23
  have hle := Below.size b10
  have BO := BW
  have HO := HT
  have orx0 := rx0
  have orx1 := rx1
  have ory0 := ry0
  have ory1 := ry1
  have orv0 := rv0
  have orv1 := rv1
  have orq0 := rq0
  have orq1 := rq1
  have bo := Below.step (.cells #[.string ⟨d1.toArray⟩, .string ⟨d2.toArray⟩] 23) (Below.refl (w10.alloc (.cells #[.string ⟨d1.toArray⟩, .string ⟨d2.toArray⟩] 23)).heap.size (w10.alloc (.cells #[.string ⟨d1.toArray⟩, .string ⟨d2.toArray⟩] 23)))
  have bo := Below.more b10 bo
  obtain ⟨U11, hU, bU, s11, rd0, rd1⟩ := lay b10 (.string ⟨d1.toArray⟩) (.string ⟨d2.toArray⟩) 23
  rw [hU] at hzd bo
  rw [hU]; clear hU s11
  replace rx0 := fun v (h : Below U11.heap.size U11 v) => rx0 v (Below.more bU h)
  replace rx1 := fun v (h : Below U11.heap.size U11 v) => rx1 v (Below.more bU h)
  replace ry0 := fun v (h : Below U11.heap.size U11 v) => ry0 v (Below.more bU h)
  replace ry1 := fun v (h : Below U11.heap.size U11 v) => ry1 v (Below.more bU h)
  replace rv0 := fun v (h : Below U11.heap.size U11 v) => rv0 v (Below.more bU h)
  replace rv1 := fun v (h : Below U11.heap.size U11 v) => rv1 v (Below.more bU h)
  replace rq0 := fun v (h : Below U11.heap.size U11 v) => rq0 v (Below.more bU h)
  replace rq1 := fun v (h : Below U11.heap.size U11 v) => rq1 v (Below.more bU h)
  replace BW := Below.more BW bU
  replace HT := Lib.hid (HT.out.below bU)
  clear bU
  have b11 := Below.refl U11.heap.size U11
  clear ba
  refine (CSD.out _).mono ?_
  rintro e w12 ⟨rfl, b⟩
  have b12 := Below.more b11 b
  clear b
  go_wp2_with fail
  refine (CNG.out _).mono ?_
  rintro e w13 ⟨rfl, b⟩
  have b13 := Below.more b12 b
  clear b
  have hz9 := hzd.below b13
  have z0 := hz9.c0
  have z1 := hz9.c1
  have z2 := hz9.f0
  have z3 := hz9.f1
  clear hz9
  go_wp2_with fail
  clear z0 z1 z2 z3
  obtain ⟨V, hV, bV, re0, re1⟩ := restore (hzd.below b13) (Below.more bo b13) hle (.string ⟨e1.toArray⟩) (.string ⟨e2.toArray⟩)
  rw [hV]; clear hV hzd hle bo rd0 rd1
  replace rx0 := fun v (h : Below V.heap.size V v) => orx0 v (Below.more bV h)
  clear orx0
  replace rx1 := fun v (h : Below V.heap.size V v) => orx1 v (Below.more bV h)
  clear orx1
  replace ry0 := fun v (h : Below V.heap.size V v) => ory0 v (Below.more bV h)
  clear ory0
  replace ry1 := fun v (h : Below V.heap.size V v) => ory1 v (Below.more bV h)
  clear ory1
  replace rv0 := fun v (h : Below V.heap.size V v) => orv0 v (Below.more bV h)
  clear orv0
  replace rv1 := fun v (h : Below V.heap.size V v) => orv1 v (Below.more bV h)
  clear orv1
  replace rq0 := fun v (h : Below V.heap.size V v) => orq0 v (Below.more bV h)
  clear orq0
  replace rq1 := fun v (h : Below V.heap.size V v) => orq1 v (Below.more bV h)
  clear orq1
  replace BW := Below.more BO bV
  replace HT := Lib.hid (HO.out.below bV)
  clear bV BO HO
  have b30 := Below.refl V.heap.size V
  try simp only [List.append_eq, List.cons_append, List.nil_append]
  have hB := Lib.hid (Nat.le_refl V.heap.size)
  first | (go_region_held3 (fun w' => Below V.heap.size V w')
      (first | (exact b30.drew) | (with_reducible assumption) | (exact Below.alloc (by with_reducible assumption) (Nat.le_trans hB.out (Below.size (by with_reducible assumption))) _) | (exact put2 (by with_reducible assumption) (Nat.le_refl _) _ _) | (exact put2 (by with_reducible assumption) hB.out _ _) | (exact put2 (by with_reducible assumption) (Nat.le_trans hB.out (Below.size (by with_reducible assumption))) _ _))
      (first | (go_at_call 20; (with_reducible refine (held (W := V) hB.out (CMY.out _) (by assumption)).mono ?_); rintro e w'' ⟨rfl, hb, hw⟩; (first | (have hz := zc_made0 hb) | (have hz := zc_made hb) | skip); (try have hz := Zc.below (by assumption) hb); (try (have z0 := hz.c0; have z1 := hz.c1; have z2 := hz.f0; have z3 := hz.f1))) | (go_at_call 21; (with_reducible refine (held (W := V) hB.out (CDG.out _) (by assumption)).mono ?_); rintro e w'' ⟨rfl, hb, hw⟩; (first | (have hz := zc_made0 hb) | (have hz := zc_made hb) | skip); (try have hz := Zc.below (by assumption) hb); (try (have z0 := hz.c0; have z1 := hz.c1; have z2 := hz.f0; have z3 := hz.f1))) | (go_at_call 11; (with_reducible refine (held (W := V) hB.out (CR2.out _ (HT.out.below (by assumption))) (by assumption)).mono ?_); rintro e w'' ⟨rfl, hb, hw⟩; (first | (have hz := zc_made0 hb) | (have hz := zc_made hb) | skip); (try have hz := Zc.below (by assumption) hb); (try (have z0 := hz.c0; have z1 := hz.c1; have z2 := hz.f0; have z3 := hz.f1))))) | fail
  rename_i hH
  have b31 := hH
  clear hH hB
  go_wp2_with fail
  refine (CSX.out _).mono ?_
  rintro e w32 ⟨rfl, b⟩
  have b32 := Below.more b31 b
  clear b
  go_wp2_with fail
  refine (CSX.out _).mono ?_
  rintro e w33 ⟨rfl, b⟩
  have b33 := Below.more b32 b
  clear b
  go_wp2_with fail
  refine (CYX.out _).mono ?_
  rintro e w34 ⟨rfl, b⟩
  have b34 := Below.more b33 b
  clear b
  go_wp2_with fail
  refine (CSY.out _).mono ?_
  rintro e w35 ⟨rfl, b⟩
  have b35 := Below.more b34 b
  clear b
  go_wp2_with fail
  go_ret
  exact ⟨ret_bool (by first | rfl | simp [*] | (simp; omega)), Below.more BW b35⟩
set_option maxRecDepth 100000 in
set_option maxHeartbeats 4000000 in
theorem near5_2p {x1 x2 g1 g2 y1 y2 q1 d1 d2 f1 f2 : List UInt8} {s sd k : Int} (w : World) (hs : ¬ s ≤ 0) (hd : ¬ sd < 0) (hk : k ≤ 0) (ht : GoodG w)
    (CG : Hid (∀ w, Calls Tryz.prog 15 #[.slice (some ⟨w.heap.size, 0, none⟩) 2 2] (w.alloc (.cells #[.string ⟨x1.toArray⟩, .string ⟨x2.toArray⟩, .string ⟨g1.toArray⟩, .string ⟨g2.toArray⟩] 23)) fun e w' => e = .returned (.bool true) ∧ Below w.heap.size w w'))
    (CS : Hid (∀ w, Calls Tryz.prog 16 #[.agg #[.string ⟨g1.toArray⟩, .string ⟨g2.toArray⟩]] w (GiveI w s)))
    (CR : Hid (∀ w, GoodG w → Calls Tryz.prog 11 #[.agg #[.string ⟨x1.toArray⟩, .string ⟨x2.toArray⟩], .agg #[.string ⟨g1.toArray⟩, .string ⟨g2.toArray⟩], .int .i64 2] w (GiveR w (y1, y2))))
    (CD : Hid (∀ w, Calls Tryz.prog 17 #[.agg #[.string ⟨y1.toArray⟩, .string ⟨y2.toArray⟩], .agg #[.string ⟨g1.toArray⟩, .string ⟨g2.toArray⟩]] w (GiveRB w ((q1, [49]), true))))
    (CB : Hid (∀ w, Calls Tryz.prog 18 #[.agg #[.string ⟨y1.toArray⟩, .string ⟨y2.toArray⟩], .agg #[.string ⟨x1.toArray⟩, .string ⟨x2.toArray⟩]] w (GiveR w (d1, d2))))
    (CSD : Hid (∀ w, Calls Tryz.prog 16 #[.agg #[.string ⟨d1.toArray⟩, .string ⟨d2.toArray⟩]] w (GiveI w sd)))
    (CMY : Hid (∀ w, Calls Tryz.prog 20 #[.agg #[.string ⟨y1.toArray⟩, .string ⟨y2.toArray⟩]] w (GiveB w true)))
    (CDG : Hid (∀ w, Calls Tryz.prog 21 #[.agg #[.string ⟨d1.toArray⟩, .string ⟨d2.toArray⟩], .agg #[.string ⟨g1.toArray⟩, .string ⟨g2.toArray⟩]] w (GiveI w (-1))))
    (CR2 : Hid (∀ w, GoodG w → Calls Tryz.prog 11 #[.agg #[.string ⟨y1.toArray⟩, .string ⟨y2.toArray⟩], .agg #[.string ⟨g1.toArray⟩, .string ⟨g2.toArray⟩], .int .i64 2] w (GiveR w (y1, y2))))
    (CDD : Hid (∀ w, Calls Tryz.prog 22 #[.agg #[.string ⟨d1.toArray⟩, .string ⟨d2.toArray⟩], .agg #[.string ⟨d1.toArray⟩, .string ⟨d2.toArray⟩]] w (GiveR w (f1, f2))))
    (CEG : Hid (∀ w, Calls Tryz.prog 21 #[.agg #[.string ⟨f1.toArray⟩, .string ⟨f2.toArray⟩], .agg #[.string ⟨g1.toArray⟩, .string ⟨g2.toArray⟩]] w (GiveI w k))) :
    Calls Tryz.prog 4 #[.agg #[.string ⟨x1.toArray⟩, .string ⟨x2.toArray⟩], .agg #[.string ⟨g1.toArray⟩, .string ⟨g2.toArray⟩], .int .i64 2] w (GiveB w true) := by
  have HT := Lib.hid ht; clear ht
  go_enter Tryz.func4, Tryz.ntmps4
  go_wp2_with fail
  have BW := Below.refl w.heap.size w
  have b0 : Below w.heap.size w w := Below.refl _ _
  obtain ⟨U1, hU, bU, s1, rx0, rx1⟩ := lay b0 (.string ⟨x1.toArray⟩) (.string ⟨x2.toArray⟩) 23
  rw [hU]; clear hU
  replace BW := Below.more BW bU
  replace HT := Lib.hid (HT.out.below bU)
  clear bU
  have b1 := Below.refl U1.heap.size U1
  obtain ⟨U2, hU, bU, s2, ry0, ry1⟩ := lay b1 (.string ⟨g1.toArray⟩) (.string ⟨g2.toArray⟩) 23
  rw [hU]; clear hU
  rw [← s1] at ry0 ry1
  clear s2
  replace rx0 := fun v (h : Below U2.heap.size U2 v) => rx0 v (Below.more bU h)
  replace rx1 := fun v (h : Below U2.heap.size U2 v) => rx1 v (Below.more bU h)
  replace BW := Below.more BW bU
  replace HT := Lib.hid (HT.out.below bU)
  clear bU
  have b2 := Below.refl U2.heap.size U2
  clear s1
  go_wp2_with fail
  refine (fixed5_any _ (HT.out.below b2)).mono ?_
  rintro e w3 ⟨rfl, b⟩
  have b3 := Below.more b2 b
  clear b
  go_wp2_with fail
  refine (CG.out _).mono ?_
  rintro e w4 ⟨rfl, b⟩
  have b4 := Below.more b3 b
  clear b
  go_wp2_with fail
  refine (CS.out _).mono ?_
  rintro e w5 ⟨rfl, b⟩
  have b5 := Below.more b4 b
  clear b
  go_wp2_with fail
  refine (CR.out _ (HT.out.below b5)).mono ?_
  rintro e w6 ⟨rfl, b⟩
  have b6 := Below.more b5 b
  clear b
  have ba := fun x => Below.alloc b6 (Below.size b6) x
  go_wp2_with fail
  obtain ⟨U7, hU, bU, s7, rv0, rv1⟩ := lay b6 (.string ⟨y1.toArray⟩) (.string ⟨y2.toArray⟩) 23
  rw [hU]; clear hU
  clear s7
  replace rx0 := fun v (h : Below U7.heap.size U7 v) => rx0 v (Below.more bU h)
  replace rx1 := fun v (h : Below U7.heap.size U7 v) => rx1 v (Below.more bU h)
  replace ry0 := fun v (h : Below U7.heap.size U7 v) => ry0 v (Below.more bU h)
  replace ry1 := fun v (h : Below U7.heap.size U7 v) => ry1 v (Below.more bU h)
  replace BW := Below.more BW bU
  replace HT := Lib.hid (HT.out.below bU)
  clear bU
  have b7 := Below.refl U7.heap.size U7
  clear ba
  refine (CD.out _).mono ?_
  rintro e w8 ⟨rfl, b⟩
  have b8 := Below.more b7 b
  clear b
  have ba := fun x => Below.alloc b8 (Below.size b8) x
  go_wp2_with fail
  obtain ⟨U9, hU, bU, s9, rq0, rq1⟩ := lay b8 (.string ⟨q1.toArray⟩) (.string ⟨#[49]⟩) 23
  rw [hU]; clear hU
  clear s9
  replace rx0 := fun v (h : Below U9.heap.size U9 v) => rx0 v (Below.more bU h)
  replace rx1 := fun v (h : Below U9.heap.size U9 v) => rx1 v (Below.more bU h)
  replace ry0 := fun v (h : Below U9.heap.size U9 v) => ry0 v (Below.more bU h)
  replace ry1 := fun v (h : Below U9.heap.size U9 v) => ry1 v (Below.more bU h)
  replace rv0 := fun v (h : Below U9.heap.size U9 v) => rv0 v (Below.more bU h)
  replace rv1 := fun v (h : Below U9.heap.size U9 v) => rv1 v (Below.more bU h)
  replace BW := Below.more BW bU
  replace HT := Lib.hid (HT.out.below bU)
  clear bU
  have b9 := Below.refl U9.heap.size U9
  clear ba
  refine (CB.out _).mono ?_
  rintro e w10 ⟨rfl, b⟩
  have b10 := Below.more b9 b
  clear b
  have ba := fun x => Below.alloc b10 (Below.size b10) x
  go_wp2_with fail
  obtain ⟨U11, hU, bU, s11, rd0, rd1⟩ := lay b10 (.string ⟨d1.toArray⟩) (.string ⟨d2.toArray⟩) 23
  rw [hU]; clear hU
  clear s11
  replace rx0 := fun v (h : Below U11.heap.size U11 v) => rx0 v (Below.more bU h)
  replace rx1 := fun v (h : Below U11.heap.size U11 v) => rx1 v (Below.more bU h)
  replace ry0 := fun v (h : Below U11.heap.size U11 v) => ry0 v (Below.more bU h)
  replace ry1 := fun v (h : Below U11.heap.size U11 v) => ry1 v (Below.more bU h)
  replace rv0 := fun v (h : Below U11.heap.size U11 v) => rv0 v (Below.more bU h)
  replace rv1 := fun v (h : Below U11.heap.size U11 v) => rv1 v (Below.more bU h)
  replace rq0 := fun v (h : Below U11.heap.size U11 v) => rq0 v (Below.more bU h)
  replace rq1 := fun v (h : Below U11.heap.size U11 v) => rq1 v (Below.more bU h)
  replace BW := Below.more BW bU
  replace HT := Lib.hid (HT.out.below bU)
  clear bU
  have b11 := Below.refl U11.heap.size U11
  clear ba
  refine (CSD.out _).mono ?_
  rintro e w12 ⟨rfl, b⟩
  have b12 := Below.more b11 b
  clear b
  go_wp2_with fail
  try simp only [List.append_eq, List.cons_append, List.nil_append]
  have hB := Lib.hid (Nat.le_refl U11.heap.size)
  first | (go_region_held3 (fun w' => Below U11.heap.size U11 w')
      (first | (exact b12.drew) | (with_reducible assumption) | (exact Below.alloc (by with_reducible assumption) (Nat.le_trans hB.out (Below.size (by with_reducible assumption))) _) | (exact put2 (by with_reducible assumption) (Nat.le_refl _) _ _) | (exact put2 (by with_reducible assumption) hB.out _ _) | (exact put2 (by with_reducible assumption) (Nat.le_trans hB.out (Below.size (by with_reducible assumption))) _ _))
      (first | (go_at_call 20; (with_reducible refine (held (W := U11) hB.out (CMY.out _) (by assumption)).mono ?_); rintro e w'' ⟨rfl, hb, hw⟩; (first | (have hz := zc_made0 hb) | (have hz := zc_made hb) | skip); (try have hz := Zc.below (by assumption) hb); (try (have z0 := hz.c0; have z1 := hz.c1; have z2 := hz.f0; have z3 := hz.f1))) | (go_at_call 21; (with_reducible refine (held (W := U11) hB.out (CDG.out _) (by assumption)).mono ?_); rintro e w'' ⟨rfl, hb, hw⟩; (first | (have hz := zc_made0 hb) | (have hz := zc_made hb) | skip); (try have hz := Zc.below (by assumption) hb); (try (have z0 := hz.c0; have z1 := hz.c1; have z2 := hz.f0; have z3 := hz.f1))) | (go_at_call 11; (with_reducible refine (held (W := U11) hB.out (CR2.out _ (HT.out.below (by assumption))) (by assumption)).mono ?_); rintro e w'' ⟨rfl, hb, hw⟩; (first | (have hz := zc_made0 hb) | (have hz := zc_made hb) | skip); (try have hz := Zc.below (by assumption) hb); (try (have z0 := hz.c0; have z1 := hz.c1; have z2 := hz.f0; have z3 := hz.f1))))) | fail
  rename_i hH
  have b13 := hH
  clear hH hB
  go_wp2_with fail
  have hB := Lib.hid (Nat.le_refl U11.heap.size)
  first | (go_region_held3 (fun w' => Below U11.heap.size U11 w')
      (first | (exact b13.drew) | (with_reducible assumption) | (exact Below.alloc (by with_reducible assumption) (Nat.le_trans hB.out (Below.size (by with_reducible assumption))) _) | (exact put2 (by with_reducible assumption) (Nat.le_refl _) _ _) | (exact put2 (by with_reducible assumption) hB.out _ _) | (exact put2 (by with_reducible assumption) (Nat.le_trans hB.out (Below.size (by with_reducible assumption))) _ _))
      (first | (go_at_call 22; (with_reducible refine (held (W := U11) hB.out (CDD.out _) (by assumption)).mono ?_); rintro e w'' ⟨rfl, hb, hw⟩; (first | (have hz := zc_made0 hb) | (have hz := zc_made hb) | skip); (try have hz := Zc.below (by assumption) hb); (try (have z0 := hz.c0; have z1 := hz.c1; have z2 := hz.f0; have z3 := hz.f1))) | (go_at_call 21; (with_reducible show Calls _ _ #[.agg #[.string ⟨f1.toArray⟩, .string ⟨f2.toArray⟩], .agg #[.string ⟨g1.toArray⟩, .string ⟨g2.toArray⟩]] _ _); (with_reducible refine (held (W := U11) hB.out (CEG.out _) (by assumption)).mono ?_); rintro e w'' ⟨rfl, hb, hw⟩; (first | (have hz := zc_made0 hb) | (have hz := zc_made hb) | skip); (try have hz := Zc.below (by assumption) hb); (try (have z0 := hz.c0; have z1 := hz.c1; have z2 := hz.f0; have z3 := hz.f1))))) | fail
  rename_i hH
  have b14 := hH
  clear hH hB
  go_wp2_with fail
  go_ret
  exact ⟨ret_bool (by first | rfl | simp [*] | (simp; omega)), Below.more BW b14⟩
set_option maxRecDepth 100000 in
set_option maxHeartbeats 4000000 in
theorem near5_2n {x1 x2 g1 g2 y1 y2 q1 d1 d2 e1 e2 f1 f2 : List UInt8} {s sd k : Int} (w : World) (hs : ¬ s ≤ 0) (hd : sd < 0) (hk : k ≤ 0) (ht : GoodG w)
    (CG : Hid (∀ w, Calls Tryz.prog 15 #[.slice (some ⟨w.heap.size, 0, none⟩) 2 2] (w.alloc (.cells #[.string ⟨x1.toArray⟩, .string ⟨x2.toArray⟩, .string ⟨g1.toArray⟩, .string ⟨g2.toArray⟩] 23)) fun e w' => e = .returned (.bool true) ∧ Below w.heap.size w w'))
    (CS : Hid (∀ w, Calls Tryz.prog 16 #[.agg #[.string ⟨g1.toArray⟩, .string ⟨g2.toArray⟩]] w (GiveI w s)))
    (CR : Hid (∀ w, GoodG w → Calls Tryz.prog 11 #[.agg #[.string ⟨x1.toArray⟩, .string ⟨x2.toArray⟩], .agg #[.string ⟨g1.toArray⟩, .string ⟨g2.toArray⟩], .int .i64 2] w (GiveR w (y1, y2))))
    (CD : Hid (∀ w, Calls Tryz.prog 17 #[.agg #[.string ⟨y1.toArray⟩, .string ⟨y2.toArray⟩], .agg #[.string ⟨g1.toArray⟩, .string ⟨g2.toArray⟩]] w (GiveRB w ((q1, [49]), true))))
    (CB : Hid (∀ w, Calls Tryz.prog 18 #[.agg #[.string ⟨y1.toArray⟩, .string ⟨y2.toArray⟩], .agg #[.string ⟨x1.toArray⟩, .string ⟨x2.toArray⟩]] w (GiveR w (d1, d2))))
    (CSD : Hid (∀ w, Calls Tryz.prog 16 #[.agg #[.string ⟨d1.toArray⟩, .string ⟨d2.toArray⟩]] w (GiveI w sd)))
    (CNG : Hid (∀ w, Calls Tryz.prog 19 #[.agg #[.string ⟨d1.toArray⟩, .string ⟨d2.toArray⟩]] w (GiveR w (e1, e2))))
    (CMY : Hid (∀ w, Calls Tryz.prog 20 #[.agg #[.string ⟨y1.toArray⟩, .string ⟨y2.toArray⟩]] w (GiveB w true)))
    (CDG : Hid (∀ w, Calls Tryz.prog 21 #[.agg #[.string ⟨e1.toArray⟩, .string ⟨e2.toArray⟩], .agg #[.string ⟨g1.toArray⟩, .string ⟨g2.toArray⟩]] w (GiveI w (-1))))
    (CR2 : Hid (∀ w, GoodG w → Calls Tryz.prog 11 #[.agg #[.string ⟨y1.toArray⟩, .string ⟨y2.toArray⟩], .agg #[.string ⟨g1.toArray⟩, .string ⟨g2.toArray⟩], .int .i64 2] w (GiveR w (y1, y2))))
    (CDD : Hid (∀ w, Calls Tryz.prog 22 #[.agg #[.string ⟨e1.toArray⟩, .string ⟨e2.toArray⟩], .agg #[.string ⟨e1.toArray⟩, .string ⟨e2.toArray⟩]] w (GiveR w (f1, f2))))
    (CEG : Hid (∀ w, Calls Tryz.prog 21 #[.agg #[.string ⟨f1.toArray⟩, .string ⟨f2.toArray⟩], .agg #[.string ⟨g1.toArray⟩, .string ⟨g2.toArray⟩]] w (GiveI w k))) :
    Calls Tryz.prog 4 #[.agg #[.string ⟨x1.toArray⟩, .string ⟨x2.toArray⟩], .agg #[.string ⟨g1.toArray⟩, .string ⟨g2.toArray⟩], .int .i64 2] w (GiveB w true) := by
  have HT := Lib.hid ht; clear ht
  go_enter Tryz.func4, Tryz.ntmps4
  go_wp2_with fail
  have BW := Below.refl w.heap.size w
  have b0 : Below w.heap.size w w := Below.refl _ _
  obtain ⟨U1, hU, bU, s1, rx0, rx1⟩ := lay b0 (.string ⟨x1.toArray⟩) (.string ⟨x2.toArray⟩) 23
  rw [hU]; clear hU
  replace BW := Below.more BW bU
  replace HT := Lib.hid (HT.out.below bU)
  clear bU
  have b1 := Below.refl U1.heap.size U1
  obtain ⟨U2, hU, bU, s2, ry0, ry1⟩ := lay b1 (.string ⟨g1.toArray⟩) (.string ⟨g2.toArray⟩) 23
  rw [hU]; clear hU
  rw [← s1] at ry0 ry1
  clear s2
  replace rx0 := fun v (h : Below U2.heap.size U2 v) => rx0 v (Below.more bU h)
  replace rx1 := fun v (h : Below U2.heap.size U2 v) => rx1 v (Below.more bU h)
  replace BW := Below.more BW bU
  replace HT := Lib.hid (HT.out.below bU)
  clear bU
  have b2 := Below.refl U2.heap.size U2
  clear s1
  go_wp2_with fail
  refine (fixed5_any _ (HT.out.below b2)).mono ?_
  rintro e w3 ⟨rfl, b⟩
  have b3 := Below.more b2 b
  clear b
  go_wp2_with fail
  refine (CG.out _).mono ?_
  rintro e w4 ⟨rfl, b⟩
  have b4 := Below.more b3 b
  clear b
  go_wp2_with fail
  refine (CS.out _).mono ?_
  rintro e w5 ⟨rfl, b⟩
  have b5 := Below.more b4 b
  clear b
  go_wp2_with fail
  refine (CR.out _ (HT.out.below b5)).mono ?_
  rintro e w6 ⟨rfl, b⟩
  have b6 := Below.more b5 b
  clear b
  have ba := fun x => Below.alloc b6 (Below.size b6) x
  go_wp2_with fail
  obtain ⟨U7, hU, bU, s7, rv0, rv1⟩ := lay b6 (.string ⟨y1.toArray⟩) (.string ⟨y2.toArray⟩) 23
  rw [hU]; clear hU
  clear s7
  replace rx0 := fun v (h : Below U7.heap.size U7 v) => rx0 v (Below.more bU h)
  replace rx1 := fun v (h : Below U7.heap.size U7 v) => rx1 v (Below.more bU h)
  replace ry0 := fun v (h : Below U7.heap.size U7 v) => ry0 v (Below.more bU h)
  replace ry1 := fun v (h : Below U7.heap.size U7 v) => ry1 v (Below.more bU h)
  replace BW := Below.more BW bU
  replace HT := Lib.hid (HT.out.below bU)
  clear bU
  have b7 := Below.refl U7.heap.size U7
  clear ba
  refine (CD.out _).mono ?_
  rintro e w8 ⟨rfl, b⟩
  have b8 := Below.more b7 b
  clear b
  have ba := fun x => Below.alloc b8 (Below.size b8) x
  go_wp2_with fail
  obtain ⟨U9, hU, bU, s9, rq0, rq1⟩ := lay b8 (.string ⟨q1.toArray⟩) (.string ⟨#[49]⟩) 23
  rw [hU]; clear hU
  clear s9
  replace rx0 := fun v (h : Below U9.heap.size U9 v) => rx0 v (Below.more bU h)
  replace rx1 := fun v (h : Below U9.heap.size U9 v) => rx1 v (Below.more bU h)
  replace ry0 := fun v (h : Below U9.heap.size U9 v) => ry0 v (Below.more bU h)
  replace ry1 := fun v (h : Below U9.heap.size U9 v) => ry1 v (Below.more bU h)
  replace rv0 := fun v (h : Below U9.heap.size U9 v) => rv0 v (Below.more bU h)
  replace rv1 := fun v (h : Below U9.heap.size U9 v) => rv1 v (Below.more bU h)
  replace BW := Below.more BW bU
  replace HT := Lib.hid (HT.out.below bU)
  clear bU
  have b9 := Below.refl U9.heap.size U9
  clear ba
  refine (CB.out _).mono ?_
  rintro e w10 ⟨rfl, b⟩
  have b10 := Below.more b9 b
  clear b
  have ba := fun x => Below.alloc b10 (Below.size b10) x
  go_wp2_with fail
  have hzd := zc_new w10 (.string ⟨d1.toArray⟩) (.string ⟨d2.toArray⟩) 23
  have hle := Below.size b10
  have BO := BW
  have HO := HT
  have orx0 := rx0
  have orx1 := rx1
  have ory0 := ry0
  have ory1 := ry1
  have orv0 := rv0
  have orv1 := rv1
  have orq0 := rq0
  have orq1 := rq1
  have bo := Below.step (.cells #[.string ⟨d1.toArray⟩, .string ⟨d2.toArray⟩] 23) (Below.refl (w10.alloc (.cells #[.string ⟨d1.toArray⟩, .string ⟨d2.toArray⟩] 23)).heap.size (w10.alloc (.cells #[.string ⟨d1.toArray⟩, .string ⟨d2.toArray⟩] 23)))
  have bo := Below.more b10 bo
  obtain ⟨U11, hU, bU, s11, rd0, rd1⟩ := lay b10 (.string ⟨d1.toArray⟩) (.string ⟨d2.toArray⟩) 23
  rw [hU] at hzd bo
  rw [hU]; clear hU s11
  replace rx0 := fun v (h : Below U11.heap.size U11 v) => rx0 v (Below.more bU h)
  replace rx1 := fun v (h : Below U11.heap.size U11 v) => rx1 v (Below.more bU h)
  replace ry0 := fun v (h : Below U11.heap.size U11 v) => ry0 v (Below.more bU h)
  replace ry1 := fun v (h : Below U11.heap.size U11 v) => ry1 v (Below.more bU h)
  replace rv0 := fun v (h : Below U11.heap.size U11 v) => rv0 v (Below.more bU h)
  replace rv1 := fun v (h : Below U11.heap.size U11 v) => rv1 v (Below.more bU h)
  replace rq0 := fun v (h : Below U11.heap.size U11 v) => rq0 v (Below.more bU h)
  replace rq1 := fun v (h : Below U11.heap.size U11 v) => rq1 v (Below.more bU h)
  replace BW := Below.more BW bU
  replace HT := Lib.hid (HT.out.below bU)
  clear bU
  have b11 := Below.refl U11.heap.size U11
  clear ba
  refine (CSD.out _).mono ?_
  rintro e w12 ⟨rfl, b⟩
  have b12 := Below.more b11 b
  clear b
  go_wp2_with fail
  refine (CNG.out _).mono ?_
  rintro e w13 ⟨rfl, b⟩
  have b13 := Below.more b12 b
  clear b
  have hz9 := hzd.below b13
  have z0 := hz9.c0
  have z1 := hz9.c1
  have z2 := hz9.f0
  have z3 := hz9.f1
  clear hz9
  go_wp2_with fail
  clear z0 z1 z2 z3
  obtain ⟨V, hV, bV, re0, re1⟩ := restore (hzd.below b13) (Below.more bo b13) hle (.string ⟨e1.toArray⟩) (.string ⟨e2.toArray⟩)
  rw [hV]; clear hV hzd hle bo rd0 rd1
  replace rx0 := fun v (h : Below V.heap.size V v) => orx0 v (Below.more bV h)
  clear orx0
  replace rx1 := fun v (h : Below V.heap.size V v) => orx1 v (Below.more bV h)
  clear orx1
  replace ry0 := fun v (h : Below V.heap.size V v) => ory0 v (Below.more bV h)
  clear ory0
  replace ry1 := fun v (h : Below V.heap.size V v) => ory1 v (Below.more bV h)
  clear ory1
  replace rv0 := fun v (h : Below V.heap.size V v) => orv0 v (Below.more bV h)
  clear orv0
  replace rv1 := fun v (h : Below V.heap.size V v) => orv1 v (Below.more bV h)
  clear orv1
  replace rq0 := fun v (h : Below V.heap.size V v) => orq0 v (Below.more bV h)
  clear orq0
  replace rq1 := fun v (h : Below V.heap.size V v) => orq1 v (Below.more bV h)
  clear orq1
  replace BW := Below.more BO bV
  replace HT := Lib.hid (HO.out.below bV)
  clear bV BO HO
  have b30 := Below.refl V.heap.size V
  try simp only [List.append_eq, List.cons_append, List.nil_append]
  have hB := Lib.hid (Nat.le_refl V.heap.size)
  first | (go_region_held3 (fun w' => Below V.heap.size V w')
      (first | (exact b30.drew) | (with_reducible assumption) | (exact Below.alloc (by with_reducible assumption) (Nat.le_trans hB.out (Below.size (by with_reducible assumption))) _) | (exact put2 (by with_reducible assumption) (Nat.le_refl _) _ _) | (exact put2 (by with_reducible assumption) hB.out _ _) | (exact put2 (by with_reducible assumption) (Nat.le_trans hB.out (Below.size (by with_reducible assumption))) _ _))
      (first | (go_at_call 20; (with_reducible refine (held (W := V) hB.out (CMY.out _) (by assumption)).mono ?_); rintro e w'' ⟨rfl, hb, hw⟩; (first | (have hz := zc_made0 hb) | (have hz := zc_made hb) | skip); (try have hz := Zc.below (by assumption) hb); (try (have z0 := hz.c0; have z1 := hz.c1; have z2 := hz.f0; have z3 := hz.f1))) | (go_at_call 21; (with_reducible refine (held (W := V) hB.out (CDG.out _) (by assumption)).mono ?_); rintro e w'' ⟨rfl, hb, hw⟩; (first | (have hz := zc_made0 hb) | (have hz := zc_made hb) | skip); (try have hz := Zc.below (by assumption) hb); (try (have z0 := hz.c0; have z1 := hz.c1; have z2 := hz.f0; have z3 := hz.f1))) | (go_at_call 11; (with_reducible refine (held (W := V) hB.out (CR2.out _ (HT.out.below (by assumption))) (by assumption)).mono ?_); rintro e w'' ⟨rfl, hb, hw⟩; (first | (have hz := zc_made0 hb) | (have hz := zc_made hb) | skip); (try have hz := Zc.below (by assumption) hb); (try (have z0 := hz.c0; have z1 := hz.c1; have z2 := hz.f0; have z3 := hz.f1))))) | fail
  rename_i hH
  have b31 := hH
  clear hH hB
  go_wp2_with fail
  have hB := Lib.hid (Nat.le_refl V.heap.size)
  first | (go_region_held3 (fun w' => Below V.heap.size V w')
      (first | (exact b31.drew) | (with_reducible assumption) | (exact Below.alloc (by with_reducible assumption) (Nat.le_trans hB.out (Below.size (by with_reducible assumption))) _) | (exact put2 (by with_reducible assumption) (Nat.le_refl _) _ _) | (exact put2 (by with_reducible assumption) hB.out _ _) | (exact put2 (by with_reducible assumption) (Nat.le_trans hB.out (Below.size (by with_reducible assumption))) _ _))
      (first | (go_at_call 22; (with_reducible refine (held (W := V) hB.out (CDD.out _) (by assumption)).mono ?_); rintro e w'' ⟨rfl, hb, hw⟩; (first | (have hz := zc_made0 hb) | (have hz := zc_made hb) | skip); (try have hz := Zc.below (by assumption) hb); (try (have z0 := hz.c0; have z1 := hz.c1; have z2 := hz.f0; have z3 := hz.f1))) | (go_at_call 21; (with_reducible show Calls _ _ #[.agg #[.string ⟨f1.toArray⟩, .string ⟨f2.toArray⟩], .agg #[.string ⟨g1.toArray⟩, .string ⟨g2.toArray⟩]] _ _); (with_reducible refine (held (W := V) hB.out (CEG.out _) (by assumption)).mono ?_); rintro e w'' ⟨rfl, hb, hw⟩; (first | (have hz := zc_made0 hb) | (have hz := zc_made hb) | skip); (try have hz := Zc.below (by assumption) hb); (try (have z0 := hz.c0; have z1 := hz.c1; have z2 := hz.f0; have z3 := hz.f1))))) | fail
  rename_i hH
  have b32 := hH
  clear hH hB
  go_wp2_with fail
  go_ret
  exact ⟨ret_bool (by first | rfl | simp [*] | (simp; omega)), Below.more BW b32⟩
set_option maxRecDepth 100000 in
set_option maxHeartbeats 4000000 in
theorem near5_any (n d m c : ByteArray) (mode : Int) (w : World) (ht : GoodG w) :
    Calls Tryz.prog 4 #[.agg #[.string n, .string d], .agg #[.string m, .string c], .int .i64 mode] w (GiveB w true) := by
  have cg : ∀ w, Calls Tryz.prog 15 #[.slice (some ⟨w.heap.size, 0, none⟩) 2 2] (w.alloc (.cells #[.string n, .string d, .string m, .string c] 23)) fun e w' => e = .returned (.bool (gdQ (n, d) && gdQ (m, c))) ∧ Below w.heap.size w w' := fun w => good2 w (n, d) (m, c)
  cases hg : gdQ (n, d) && gdQ (m, c) with
  | false =>
    rw [hg] at cg
    clear hg
    have CG := Lib.hid cg
    clear cg
    have HT := Lib.hid ht; clear ht
    go_enter Tryz.func4, Tryz.ntmps4
    go_wp2_with fail
    have BW := Below.refl w.heap.size w
    have b0 : Below w.heap.size w w := Below.refl _ _
    obtain ⟨U1, hU, bU, s1, rx0, rx1⟩ := lay b0 (.string n) (.string d) 23
    rw [hU]; clear hU
    replace BW := Below.more BW bU
    replace HT := Lib.hid (HT.out.below bU)
    clear bU
    have b1 := Below.refl U1.heap.size U1
    obtain ⟨U2, hU, bU, s2, ry0, ry1⟩ := lay b1 (.string m) (.string c) 23
    rw [hU]; clear hU
    rw [← s1] at ry0 ry1
    clear s2
    replace rx0 := fun v (h : Below U2.heap.size U2 v) => rx0 v (Below.more bU h)
    replace rx1 := fun v (h : Below U2.heap.size U2 v) => rx1 v (Below.more bU h)
    replace BW := Below.more BW bU
    replace HT := Lib.hid (HT.out.below bU)
    clear bU
    have b2 := Below.refl U2.heap.size U2
    clear s1
    go_wp2_with fail
    refine (fixed5_any _ (HT.out.below b2)).mono ?_
    rintro e w3 ⟨rfl, b⟩
    have b3 := Below.more b2 b
    clear b
    go_wp2_with fail
    refine (CG.out _).mono ?_
    rintro e w4 ⟨rfl, b⟩
    have b4 := Below.more b3 b
    clear b
    go_wp2_with fail
    refine (fixed5_any _ (HT.out.below b4)).mono ?_
    rintro e w5 ⟨rfl, b⟩
    have b5 := Below.more b4 b
    clear b
    go_wp2_with fail
    go_ret
    exact ⟨rfl, Below.more BW b5⟩
  | true =>
    rw [hg] at cg
    rw [Bool.and_eq_true] at hg
    obtain ⟨g1, g2, g3⟩ := gd_parts5 hg.1
    obtain ⟨g4, g5, g6⟩ := gd_parts5 hg.2
    clear hg
    have lx := Lq.of_text (k := 100) g3 g1 g2 (by decide)
    have lg := Lq.of_text (k := 100) g6 g4 g5 (by decide)
    obtain ⟨e1, e2⟩ := str_rd g3
    obtain ⟨e3, e4⟩ := str_rd g6
    generalize valR ((n, d).1.data.toList, (n, d).2.data.toList) = X at *
    generalize valR ((m, c).1.data.toList, (m, c).2.data.toList) = G at *
    have e1 : n = _ := e1
    have e2 : d = _ := e2
    have e3 : m = _ := e3
    have e4 : c = _ := e4
    clear g1 g2 g3 g4 g5 g6
    subst e1
    subst e2
    subst e3
    subst e4
    have cs := dSign lg (s := sgnQ G) rfl
    by_cases hs : sgnQ G ≤ 0
    · generalize rdN X = x1 at *
      generalize rdD X = x2 at *
      generalize rdN G = g1 at *
      generalize rdD G = g2 at *
      generalize sgnQ G = s at *
      clear lx lg
      have CG := Lib.hid cg
      have CS := Lib.hid cs
      clear cg cs
      have HT := Lib.hid ht; clear ht
      go_enter Tryz.func4, Tryz.ntmps4
      go_wp2_with fail
      have BW := Below.refl w.heap.size w
      have b0 : Below w.heap.size w w := Below.refl _ _
      obtain ⟨U1, hU, bU, s1, rx0, rx1⟩ := lay b0 (.string ⟨x1.toArray⟩) (.string ⟨x2.toArray⟩) 23
      rw [hU]; clear hU
      replace BW := Below.more BW bU
      replace HT := Lib.hid (HT.out.below bU)
      clear bU
      have b1 := Below.refl U1.heap.size U1
      obtain ⟨U2, hU, bU, s2, ry0, ry1⟩ := lay b1 (.string ⟨g1.toArray⟩) (.string ⟨g2.toArray⟩) 23
      rw [hU]; clear hU
      rw [← s1] at ry0 ry1
      clear s2
      replace rx0 := fun v (h : Below U2.heap.size U2 v) => rx0 v (Below.more bU h)
      replace rx1 := fun v (h : Below U2.heap.size U2 v) => rx1 v (Below.more bU h)
      replace BW := Below.more BW bU
      replace HT := Lib.hid (HT.out.below bU)
      clear bU
      have b2 := Below.refl U2.heap.size U2
      clear s1
      go_wp2_with fail
      refine (fixed5_any _ (HT.out.below b2)).mono ?_
      rintro e w3 ⟨rfl, b⟩
      have b3 := Below.more b2 b
      clear b
      go_wp2_with fail
      refine (CG.out _).mono ?_
      rintro e w4 ⟨rfl, b⟩
      have b4 := Below.more b3 b
      clear b
      go_wp2_with fail
      refine (CS.out _).mono ?_
      rintro e w5 ⟨rfl, b⟩
      have b5 := Below.more b4 b
      clear b
      go_wp2_with fail
      refine (fixed5_any _ (HT.out.below b5)).mono ?_
      rintro e w6 ⟨rfl, b⟩
      have b6 := Below.more b5 b
      clear b
      go_wp2_with fail
      go_ret
      exact ⟨rfl, Below.more BW b6⟩
    · have h0 : 0 < G := Classical.byContradiction fun h => hs (sgn_le_zero.2 h)
      by_cases n0 : mode < 0
      · generalize rdN X = x1 at *
        generalize rdD X = x2 at *
        generalize rdN G = g1 at *
        generalize rdD G = g2 at *
        generalize sgnQ G = s at *
        clear lx lg h0
        have CG := Lib.hid cg
        have CS := Lib.hid cs
        clear cg cs
        have HT := Lib.hid ht; clear ht
        go_enter Tryz.func4, Tryz.ntmps4
        go_wp2_with fail
        have BW := Below.refl w.heap.size w
        have b0 : Below w.heap.size w w := Below.refl _ _
        obtain ⟨U1, hU, bU, s1, rx0, rx1⟩ := lay b0 (.string ⟨x1.toArray⟩) (.string ⟨x2.toArray⟩) 23
        rw [hU]; clear hU
        replace BW := Below.more BW bU
        replace HT := Lib.hid (HT.out.below bU)
        clear bU
        have b1 := Below.refl U1.heap.size U1
        obtain ⟨U2, hU, bU, s2, ry0, ry1⟩ := lay b1 (.string ⟨g1.toArray⟩) (.string ⟨g2.toArray⟩) 23
        rw [hU]; clear hU
        rw [← s1] at ry0 ry1
        clear s2
        replace rx0 := fun v (h : Below U2.heap.size U2 v) => rx0 v (Below.more bU h)
        replace rx1 := fun v (h : Below U2.heap.size U2 v) => rx1 v (Below.more bU h)
        replace BW := Below.more BW bU
        replace HT := Lib.hid (HT.out.below bU)
        clear bU
        have b2 := Below.refl U2.heap.size U2
        clear s1
        go_wp2_with fail
        refine (fixed5_any _ (HT.out.below b2)).mono ?_
        rintro e w3 ⟨rfl, b⟩
        have b3 := Below.more b2 b
        clear b
        go_wp2_with fail
        refine (CG.out _).mono ?_
        rintro e w4 ⟨rfl, b⟩
        have b4 := Below.more b3 b
        clear b
        go_wp2_with fail
        refine (CS.out _).mono ?_
        rintro e w5 ⟨rfl, b⟩
        have b5 := Below.more b4 b
        clear b
        go_wp2_with fail
        refine (fixed5_any _ (HT.out.below b5)).mono ?_
        rintro e w6 ⟨rfl, b⟩
        have b6 := Below.more b5 b
        clear b
        go_wp2_with fail
        go_ret
        exact ⟨rfl, Below.more BW b6⟩
      · by_cases n1 : 2 < mode
        · generalize rdN X = x1 at *
          generalize rdD X = x2 at *
          generalize rdN G = g1 at *
          generalize rdD G = g2 at *
          generalize sgnQ G = s at *
          clear lx lg h0
          have CG := Lib.hid cg
          have CS := Lib.hid cs
          clear cg cs
          have HT := Lib.hid ht; clear ht
          go_enter Tryz.func4, Tryz.ntmps4
          go_wp2_with fail
          have BW := Below.refl w.heap.size w
          have b0 : Below w.heap.size w w := Below.refl _ _
          obtain ⟨U1, hU, bU, s1, rx0, rx1⟩ := lay b0 (.string ⟨x1.toArray⟩) (.string ⟨x2.toArray⟩) 23
          rw [hU]; clear hU
          replace BW := Below.more BW bU
          replace HT := Lib.hid (HT.out.below bU)
          clear bU
          have b1 := Below.refl U1.heap.size U1
          obtain ⟨U2, hU, bU, s2, ry0, ry1⟩ := lay b1 (.string ⟨g1.toArray⟩) (.string ⟨g2.toArray⟩) 23
          rw [hU]; clear hU
          rw [← s1] at ry0 ry1
          clear s2
          replace rx0 := fun v (h : Below U2.heap.size U2 v) => rx0 v (Below.more bU h)
          replace rx1 := fun v (h : Below U2.heap.size U2 v) => rx1 v (Below.more bU h)
          replace BW := Below.more BW bU
          replace HT := Lib.hid (HT.out.below bU)
          clear bU
          have b2 := Below.refl U2.heap.size U2
          clear s1
          go_wp2_with fail
          refine (fixed5_any _ (HT.out.below b2)).mono ?_
          rintro e w3 ⟨rfl, b⟩
          have b3 := Below.more b2 b
          clear b
          go_wp2_with fail
          refine (CG.out _).mono ?_
          rintro e w4 ⟨rfl, b⟩
          have b4 := Below.more b3 b
          clear b
          go_wp2_with fail
          refine (CS.out _).mono ?_
          rintro e w5 ⟨rfl, b⟩
          have b5 := Below.more b4 b
          clear b
          go_wp2_with fail
          refine (fixed5_any _ (HT.out.below b5)).mono ?_
          rintro e w6 ⟨rfl, b⟩
          have b6 := Below.more b5 b
          clear b
          go_wp2_with fail
          go_ret
          exact ⟨rfl, Below.more BW b6⟩
        · have hm : mode = 0 ∨ mode = 1 ∨ mode = 2 := by omega
          clear n0 n1
          rcases hm with rfl | rfl | rfl
          · obtain ⟨y, hy⟩ : ∃ y, rndQ 0 X G = y := ⟨_, rfl⟩
            have ly : Lq y 303 := by rw [← hy]; exact Lq.rnd lx lg h0 0 (by decide)
            have cr := fun w hg => gRound lx lg (by decide) (by decide) h0 0 (by decide) hy w hg
            have hq : y / G = (whQ 0 (X / G) : Rat) := by rw [← hy]; exact rnd_over 0 X h0
            have cd := dDiv ly lg (ne_of_pos h0) hq
            rw [rdN_int, rdD_int] at cd
            obtain ⟨d, hd⟩ : ∃ d, y - X = d := ⟨_, rfl⟩
            have ld : Lq d (303 + 100 + 1) := by rw [← hd]; exact Lq.sub ly lx (by decide)
            have cb := dSub ly lx hd
            have csd := dSign ld (s := sgnQ d) rfl
            have hn := rnd_near 0 X h0
            rw [hy] at hn
            have cmy := dMay ly
            have hst : rndQ 0 y G = y := by rw [← hy]; exact rnd_stay 0 X h0
            have cr2 := fun w hg => gRound ly lg (by decide) (by decide) h0 0 (by decide) hst w hg
            have cyx := dCmp ly lx (s := sgnQ (y - X)) rfl
            have h2 := rnd_down X h0
            rw [hy] at h2
            have hk : sgnQ (y - X) ≤ 0 := sgn_le_zero.2 (fun h => by grind)
            by_cases hsd : sgnQ d < 0
            · have hF : sgnQ ((-d) - G) = -1 := sgnQ_neg (by rw [← hd]; grind)
              have lF : Lq (-d) (303 + 100 + 1) := ⟨by rw [Rat.neg_num, Int.natAbs_neg]; exact ld.num, by rw [Rat.neg_den]; exact ld.den, ld.le, ld.pos⟩
              have cng := dNeg ld (z := -d) rfl
              have cdg := dCmp lF lg hF
              exact near5_0n w hs hsd hk ht (Lib.hid cg) (Lib.hid cs) (Lib.hid cr) (Lib.hid cd) (Lib.hid cb) (Lib.hid csd) (Lib.hid cng) (Lib.hid cmy) (Lib.hid cdg) (Lib.hid cr2) (Lib.hid cyx)
            · have hF : sgnQ (d - G) = -1 := sgnQ_neg (by rw [← hd]; grind)
              have lF := ld
              have cdg := dCmp lF lg hF
              exact near5_0p w hs hsd hk ht (Lib.hid cg) (Lib.hid cs) (Lib.hid cr) (Lib.hid cd) (Lib.hid cb) (Lib.hid csd) (Lib.hid cmy) (Lib.hid cdg) (Lib.hid cr2) (Lib.hid cyx)
          · obtain ⟨y, hy⟩ : ∃ y, rndQ 1 X G = y := ⟨_, rfl⟩
            have ly : Lq y 303 := by rw [← hy]; exact Lq.rnd lx lg h0 1 (by decide)
            have cr := fun w hg => gRound lx lg (by decide) (by decide) h0 1 (by decide) hy w hg
            have hq : y / G = (whQ 1 (X / G) : Rat) := by rw [← hy]; exact rnd_over 1 X h0
            have cd := dDiv ly lg (ne_of_pos h0) hq
            rw [rdN_int, rdD_int] at cd
            obtain ⟨d, hd⟩ : ∃ d, y - X = d := ⟨_, rfl⟩
            have ld : Lq d (303 + 100 + 1) := by rw [← hd]; exact Lq.sub ly lx (by decide)
            have cb := dSub ly lx hd
            have csd := dSign ld (s := sgnQ d) rfl
            have hn := rnd_near 1 X h0
            rw [hy] at hn
            have cmy := dMay ly
            have hst : rndQ 1 y G = y := by rw [← hy]; exact rnd_stay 1 X h0
            have cr2 := fun w hg => gRound ly lg (by decide) (by decide) h0 1 (by decide) hst w hg
            have cyx := dCmp ly lx (s := sgnQ (y - X)) rfl
            have csx := dSign lx (s := sgnQ X) rfl
            have csy := dSign ly (s := sgnQ y) rfl
            by_cases hsd : sgnQ d < 0
            · have hF : sgnQ ((-d) - G) = -1 := sgnQ_neg (by rw [← hd]; grind)
              have lF : Lq (-d) (303 + 100 + 1) := ⟨by rw [Rat.neg_num, Int.natAbs_neg]; exact ld.num, by rw [Rat.neg_den]; exact ld.den, ld.le, ld.pos⟩
              have cng := dNeg ld (z := -d) rfl
              have cdg := dCmp lF lg hF
              by_cases hx : X < 0
              · have h2 := rnd_trunc_neg h0 hx
                rw [hy] at h2
                have k1 : 0 ≤ sgnQ (y - X) := Int.not_lt.1 (fun h => by rw [sgn_lt_zero] at h; grind)
                have k2 : sgnQ y ≤ 0 := sgn_le_zero.2 (fun h => by grind)
                exact near5_1nn w hs hsd (sgn_lt_zero.2 hx) k1 k2 ht (Lib.hid cg) (Lib.hid cs) (Lib.hid cr) (Lib.hid cd) (Lib.hid cb) (Lib.hid csd) (Lib.hid cng) (Lib.hid cmy) (Lib.hid cdg) (Lib.hid cr2) (Lib.hid csx) (Lib.hid cyx) (Lib.hid csy)
              · have h2 := rnd_trunc_pos h0 hx
                rw [hy] at h2
                have k1 : sgnQ (y - X) ≤ 0 := sgn_le_zero.2 (fun h => by grind)
                have k2 : 0 ≤ sgnQ y := Int.not_lt.1 (fun h => by rw [sgn_lt_zero] at h; grind)
                have k3 : ¬ sgnQ X < 0 := fun h => hx (sgn_lt_zero.1 h)
                exact near5_1np w hs hsd k3 (Int.not_lt.1 k3) k1 k2 ht (Lib.hid cg) (Lib.hid cs) (Lib.hid cr) (Lib.hid cd) (Lib.hid cb) (Lib.hid csd) (Lib.hid cng) (Lib.hid cmy) (Lib.hid cdg) (Lib.hid cr2) (Lib.hid csx) (Lib.hid cyx) (Lib.hid csy)
            · have hF : sgnQ (d - G) = -1 := sgnQ_neg (by rw [← hd]; grind)
              have lF := ld
              have cdg := dCmp lF lg hF
              by_cases hx : X < 0
              · have h2 := rnd_trunc_neg h0 hx
                rw [hy] at h2
                have k1 : 0 ≤ sgnQ (y - X) := Int.not_lt.1 (fun h => by rw [sgn_lt_zero] at h; grind)
                have k2 : sgnQ y ≤ 0 := sgn_le_zero.2 (fun h => by grind)
                exact near5_1pn w hs hsd (sgn_lt_zero.2 hx) k1 k2 ht (Lib.hid cg) (Lib.hid cs) (Lib.hid cr) (Lib.hid cd) (Lib.hid cb) (Lib.hid csd) (Lib.hid cmy) (Lib.hid cdg) (Lib.hid cr2) (Lib.hid csx) (Lib.hid cyx) (Lib.hid csy)
              · have h2 := rnd_trunc_pos h0 hx
                rw [hy] at h2
                have k1 : sgnQ (y - X) ≤ 0 := sgn_le_zero.2 (fun h => by grind)
                have k2 : 0 ≤ sgnQ y := Int.not_lt.1 (fun h => by rw [sgn_lt_zero] at h; grind)
                have k3 : ¬ sgnQ X < 0 := fun h => hx (sgn_lt_zero.1 h)
                exact near5_1pp w hs hsd k3 (Int.not_lt.1 k3) k1 k2 ht (Lib.hid cg) (Lib.hid cs) (Lib.hid cr) (Lib.hid cd) (Lib.hid cb) (Lib.hid csd) (Lib.hid cmy) (Lib.hid cdg) (Lib.hid cr2) (Lib.hid csx) (Lib.hid cyx) (Lib.hid csy)
          · obtain ⟨y, hy⟩ : ∃ y, rndQ 2 X G = y := ⟨_, rfl⟩
            have ly : Lq y 303 := by rw [← hy]; exact Lq.rnd lx lg h0 2 (by decide)
            have cr := fun w hg => gRound lx lg (by decide) (by decide) h0 2 (by decide) hy w hg
            have hq : y / G = (whQ 2 (X / G) : Rat) := by rw [← hy]; exact rnd_over 2 X h0
            have cd := dDiv ly lg (ne_of_pos h0) hq
            rw [rdN_int, rdD_int] at cd
            obtain ⟨d, hd⟩ : ∃ d, y - X = d := ⟨_, rfl⟩
            have ld : Lq d (303 + 100 + 1) := by rw [← hd]; exact Lq.sub ly lx (by decide)
            have cb := dSub ly lx hd
            have csd := dSign ld (s := sgnQ d) rfl
            have hn := rnd_near 2 X h0
            rw [hy] at hn
            have cmy := dMay ly
            have hst : rndQ 2 y G = y := by rw [← hy]; exact rnd_stay 2 X h0
            have cr2 := fun w hg => gRound ly lg (by decide) (by decide) h0 2 (by decide) hst w hg
            have cyx := dCmp ly lx (s := sgnQ (y - X)) rfl
            have h2 := rnd_even X h0
            rw [hy] at h2
            by_cases hsd : sgnQ d < 0
            · have hF : sgnQ ((-d) - G) = -1 := sgnQ_neg (by rw [← hd]; grind)
              have lF : Lq (-d) (303 + 100 + 1) := ⟨by rw [Rat.neg_num, Int.natAbs_neg]; exact ld.num, by rw [Rat.neg_den]; exact ld.den, ld.le, ld.pos⟩
              have cng := dNeg ld (z := -d) rfl
              have cdg := dCmp lF lg hF
              have lFF : Lq ((-d) + (-d)) (303 + 100 + 1 + (303 + 100 + 1) + 1) := Lq.add (j := 303 + 100 + 1) (k := 303 + 100 + 1) lF lF (by decide)
              have cdd := dAdd lF lF (z := (-d) + (-d)) rfl
              have ceg := dCmp lFF lg (s := sgnQ ((-d) + (-d) - G)) rfl
              have k1 : sgnQ ((-d) + (-d) - G) ≤ 0 := sgn_le_zero.2 (fun h => by rw [← hd] at h; grind)
              exact near5_2n w hs hsd k1 ht (Lib.hid cg) (Lib.hid cs) (Lib.hid cr) (Lib.hid cd) (Lib.hid cb) (Lib.hid csd) (Lib.hid cng) (Lib.hid cmy) (Lib.hid cdg) (Lib.hid cr2) (Lib.hid cdd) (Lib.hid ceg)
            · have hF : sgnQ (d - G) = -1 := sgnQ_neg (by rw [← hd]; grind)
              have lF := ld
              have cdg := dCmp lF lg hF
              have lFF : Lq (d + d) (303 + 100 + 1 + (303 + 100 + 1) + 1) := Lq.add (j := 303 + 100 + 1) (k := 303 + 100 + 1) lF lF (by decide)
              have cdd := dAdd lF lF (z := d + d) rfl
              have ceg := dCmp lFF lg (s := sgnQ (d + d - G)) rfl
              have k1 : sgnQ (d + d - G) ≤ 0 := sgn_le_zero.2 (fun h => by rw [← hd] at h; grind)
              exact near5_2p w hs hsd k1 ht (Lib.hid cg) (Lib.hid cs) (Lib.hid cr) (Lib.hid cd) (Lib.hid cb) (Lib.hid csd) (Lib.hid cmy) (Lib.hid cdg) (Lib.hid cr2) (Lib.hid cdd) (Lib.hid ceg)
end Go.Proofs.YtnahepfnejdcgaaGreatDoor
