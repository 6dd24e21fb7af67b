/- FixingLast. -/
import Derived.Test.YtmllklfjngapiaaDoorFixF
namespace Go.Proofs.YtmllklfjngapiaaDoor
open Go.RowKit
set_option linter.unusedSimpArgs false
set_option linter.unusedVariables false
set_option maxRecDepth 100000 in
set_option maxHeartbeats 4000000 in
theorem la12_1 (p : Option Addr) (c : Nat) (l : List Fx.Fix) (u : List UInt8) (t : Int) (w : World)
    (CS : Hid (∀ V, Below w.heap.size w V → Calls Tryd.prog 7 #[.slice p l.length c] V (GiveB V false))) :
    Calls Tryd.prog 5 #[.slice p l.length c, .string ⟨u.toArray⟩, .int .i64 t] w (GiveB w true) := by
  have HT : Hid (NoB w) := Lib.hid (noB w)
  go_enter Tryd.func5, Tryd.ntmps5
  go_wp2_with fail
  have BW := Below.refl w.heap.size w
  have b0 : Below w.heap.size w w := Below.refl _ _
  refine (fixed12_any _).mono ?_
  rintro e w1 ⟨rfl, b⟩
  have b1 := Below.more b0 b
  clear b
  go_wp2_with fail
  refine (CS.out _ (Below.more BW b1)).mono ?_
  rintro e w2 ⟨rfl, b⟩
  have b2 := Below.more b1 b
  clear b
  go_wp2_with fail
  refine (fixed12_any _).mono ?_
  rintro e w3 ⟨rfl, b⟩
  have b3 := Below.more b2 b
  clear b
  go_wp2_with fail
  go_ret
  exact ⟨ret_bool (by first | rfl | simp), Below.more BW b3⟩
set_option maxRecDepth 100000 in
set_option maxHeartbeats 4000000 in
theorem la12_2 (p : Option Addr) (c : Nat) (l : List Fx.Fix) (u : List UInt8) (t : Int) (w : World)
    (CS : Hid (∀ V, Below w.heap.size w V → Calls Tryd.prog 7 #[.slice p l.length c] V (GiveB V true)))
    (CM : Hid (∀ V, Below w.heap.size w V → Calls Tryd.prog 17 #[.slice p l.length c] V (GiveB V false))) :
    Calls Tryd.prog 5 #[.slice p l.length c, .string ⟨u.toArray⟩, .int .i64 t] w (GiveB w true) := by
  have HT : Hid (NoB w) := Lib.hid (noB w)
  go_enter Tryd.func5, Tryd.ntmps5
  go_wp2_with fail
  have BW := Below.refl w.heap.size w
  have b0 : Below w.heap.size w w := Below.refl _ _
  refine (fixed12_any _).mono ?_
  rintro e w1 ⟨rfl, b⟩
  have b1 := Below.more b0 b
  clear b
  go_wp2_with fail
  refine (CS.out _ (Below.more BW b1)).mono ?_
  rintro e w2 ⟨rfl, b⟩
  have b2 := Below.more b1 b
  clear b
  go_wp2_with fail
  refine (CM.out _ (Below.more BW b2)).mono ?_
  rintro e w3 ⟨rfl, b⟩
  have b3 := Below.more b2 b
  clear b
  go_wp2_with fail
  refine (fixed12_any _).mono ?_
  rintro e w4 ⟨rfl, b⟩
  have b4 := Below.more b3 b
  clear b
  go_wp2_with fail
  go_ret
  exact ⟨ret_bool (by first | rfl | simp), Below.more BW b4⟩
set_option maxRecDepth 100000 in
set_option maxHeartbeats 4000000 in
theorem la12_3 (p : Option Addr) (c : Nat) (l : List Fx.Fix) (u : List UInt8) (t : Int) (w : World) (h1 : (100 : Int) < (u.length : Int))
    (CS : Hid (∀ V, Below w.heap.size w V → Calls Tryd.prog 7 #[.slice p l.length c] V (GiveB V true)))
    (CM : Hid (∀ V, Below w.heap.size w V → Calls Tryd.prog 17 #[.slice p l.length c] V (GiveB V true))) :
    Calls Tryd.prog 5 #[.slice p l.length c, .string ⟨u.toArray⟩, .int .i64 t] w (GiveB w true) := by
  have HT : Hid (NoB w) := Lib.hid (noB w)
  go_enter Tryd.func5, Tryd.ntmps5
  go_wp2_with fail
  have BW := Below.refl w.heap.size w
  have b0 : Below w.heap.size w w := Below.refl _ _
  refine (fixed12_any _).mono ?_
  rintro e w1 ⟨rfl, b⟩
  have b1 := Below.more b0 b
  clear b
  go_wp2_with fail
  refine (CS.out _ (Below.more BW b1)).mono ?_
  rintro e w2 ⟨rfl, b⟩
  have b2 := Below.more b1 b
  clear b
  go_wp2_with fail
  refine (CM.out _ (Below.more BW b2)).mono ?_
  rintro e w3 ⟨rfl, b⟩
  have b3 := Below.more b2 b
  clear b
  go_wp2_with fail
  refine (fixed12_any _).mono ?_
  rintro e w4 ⟨rfl, b⟩
  have b4 := Below.more b3 b
  clear b
  go_wp2_with fail
  go_ret
  exact ⟨ret_bool (by first | rfl | simp), Below.more BW b4⟩
set_option maxRecDepth 100000 in
set_option maxHeartbeats 4000000 in
theorem la12_4 (p : Option Addr) (c : Nat) (l : List Fx.Fix) (u : List UInt8) (t : Int) (w : World) (h1 : ¬ (100 : Int) < (u.length : Int)) (h2 : t < -1)
    (CS : Hid (∀ V, Below w.heap.size w V → Calls Tryd.prog 7 #[.slice p l.length c] V (GiveB V true)))
    (CM : Hid (∀ V, Below w.heap.size w V → Calls Tryd.prog 17 #[.slice p l.length c] V (GiveB V true))) :
    Calls Tryd.prog 5 #[.slice p l.length c, .string ⟨u.toArray⟩, .int .i64 t] w (GiveB w true) := by
  have HT : Hid (NoB w) := Lib.hid (noB w)
  go_enter Tryd.func5, Tryd.ntmps5
  go_wp2_with fail
  have BW := Below.refl w.heap.size w
  have b0 : Below w.heap.size w w := Below.refl _ _
  refine (fixed12_any _).mono ?_
  rintro e w1 ⟨rfl, b⟩
  have b1 := Below.more b0 b
  clear b
  go_wp2_with fail
  refine (CS.out _ (Below.more BW b1)).mono ?_
  rintro e w2 ⟨rfl, b⟩
  have b2 := Below.more b1 b
  clear b
  go_wp2_with fail
  refine (CM.out _ (Below.more BW b2)).mono ?_
  rintro e w3 ⟨rfl, b⟩
  have b3 := Below.more b2 b
  clear b
  go_wp2_with fail
  refine (fixed12_any _).mono ?_
  rintro e w4 ⟨rfl, b⟩
  have b4 := Below.more b3 b
  clear b
  go_wp2_with fail
  go_ret
  exact ⟨ret_bool (by first | rfl | simp), Below.more BW b4⟩
set_option maxRecDepth 100000 in
set_option maxHeartbeats 4000000 in
theorem la12_5 (p : Option Addr) (c : Nat) (l : List Fx.Fix) (u : List UInt8) (t : Int) (w : World) (h1 : ¬ (100 : Int) < (u.length : Int)) (h2 : ¬ t < -1) (h3 : 10000 < t)
    (CS : Hid (∀ V, Below w.heap.size w V → Calls Tryd.prog 7 #[.slice p l.length c] V (GiveB V true)))
    (CM : Hid (∀ V, Below w.heap.size w V → Calls Tryd.prog 17 #[.slice p l.length c] V (GiveB V true))) :
    Calls Tryd.prog 5 #[.slice p l.length c, .string ⟨u.toArray⟩, .int .i64 t] w (GiveB w true) := by
  have HT : Hid (NoB w) := Lib.hid (noB w)
  go_enter Tryd.func5, Tryd.ntmps5
  go_wp2_with fail
  have BW := Below.refl w.heap.size w
  have b0 : Below w.heap.size w w := Below.refl _ _
  refine (fixed12_any _).mono ?_
  rintro e w1 ⟨rfl, b⟩
  have b1 := Below.more b0 b
  clear b
  go_wp2_with fail
  refine (CS.out _ (Below.more BW b1)).mono ?_
  rintro e w2 ⟨rfl, b⟩
  have b2 := Below.more b1 b
  clear b
  go_wp2_with fail
  refine (CM.out _ (Below.more BW b2)).mono ?_
  rintro e w3 ⟨rfl, b⟩
  have b3 := Below.more b2 b
  clear b
  go_wp2_with fail
  refine (fixed12_any _).mono ?_
  rintro e w4 ⟨rfl, b⟩
  have b4 := Below.more b3 b
  clear b
  go_wp2_with fail
  go_ret
  exact ⟨ret_bool (by first | rfl | simp), Below.more BW b4⟩
set_option maxRecDepth 100000 in
set_option maxHeartbeats 4000000 in
theorem la12_A (p : Option Addr) (c : Nat) (l : List Fx.Fix) (u : List UInt8) (t : Int) (w : World) (h1 : ¬ (100 : Int) < (u.length : Int)) (h2 : ¬ t < -1) (h3 : ¬ 10000 < t) (h4 : ¬ t < 0) (k1 k2 : List UInt8)
    (CS : Hid (∀ V, Below w.heap.size w V → Calls Tryd.prog 7 #[.slice p l.length c] V (GiveB V true)))
    (CM : Hid (∀ V, Below w.heap.size w V → Calls Tryd.prog 17 #[.slice p l.length c] V (GiveB V true)))
    (C1 : Hid (∀ V, Below w.heap.size w V → Calls Tryd.prog 13 #[.slice p l.length c, .string ⟨u.toArray⟩, .int .i64 t] V (GiveRB V ((k1, k2), true))))
    (C2 : Hid (∀ V, Below w.heap.size w V → Calls Tryd.prog 11 #[.slice p l.length c, .string ⟨u.toArray⟩, .int .i64 t] V (GiveRB V ((k1, k2), true))))
    (C4 : Hid (∀ V, Below w.heap.size w V → Calls Tryd.prog 13 #[.slice p l.length c, .string ⟨u.toArray⟩, .int .i64 (-1)] V (fun r w' => r = .returned (.tuple #[.agg #[.string ⟨#[]⟩, .string ⟨#[]⟩], .bool false]) ∧ Below V.heap.size V w'))) :
    Calls Tryd.prog 5 #[.slice p l.length c, .string ⟨u.toArray⟩, .int .i64 t] w (GiveB w true) := by
  have HT : Hid (NoB w) := Lib.hid (noB w)
  go_enter Tryd.func5, Tryd.ntmps5
  go_wp2_with fail
  have BW := Below.refl w.heap.size w
  have b0 : Below w.heap.size w w := Below.refl _ _
  refine (fixed12_any _).mono ?_
  rintro e w1 ⟨rfl, b⟩
  have b1 := Below.more b0 b
  clear b
  go_wp2_with fail
  refine (CS.out _ (Below.more BW b1)).mono ?_
  rintro e w2 ⟨rfl, b⟩
  have b2 := Below.more b1 b
  clear b
  go_wp2_with fail
  refine (CM.out _ (Below.more BW b2)).mono ?_
  rintro e w3 ⟨rfl, b⟩
  have b3 := Below.more b2 b
  clear b
  go_wp2_with fail
  refine (C1.out _ (Below.more BW b3)).mono ?_
  rintro e w4 ⟨rfl, b⟩
  have b4 := Below.more b3 b
  clear b
  have ba := fun x => Below.alloc b4 (Below.size b4) x
  go_wp2_with fail
  obtain ⟨U5, hU, bU, s5, rp0, rp1⟩ := lay b4 (.string ⟨k1.toArray⟩) (.string ⟨k2.toArray⟩) 24
  rw [hU]; clear hU
  clear s5
  replace BW := Below.more BW bU
  replace HT := Lib.hid (HT.out.below bU)
  clear bU
  have b5 := Below.refl U5.heap.size U5
  clear ba
  go_wp2_with fail
  refine (C2.out _ (Below.more BW b5)).mono ?_
  rintro e w6 ⟨rfl, b⟩
  have b6 := Below.more b5 b
  clear b
  have ba := fun x => Below.alloc b6 (Below.size b6) x
  go_wp2_with fail
  obtain ⟨U7, hU, bU, s7, rq0, rq1⟩ := lay b6 (.string ⟨k1.toArray⟩) (.string ⟨k2.toArray⟩) 24
  rw [hU]; clear hU
  clear s7
  replace rp0 := fun v (h : Below U7.heap.size U7 v) => rp0 v (Below.more bU h)
  replace rp1 := fun v (h : Below U7.heap.size U7 v) => rp1 v (Below.more bU h)
  replace BW := Below.more BW bU
  replace HT := Lib.hid (HT.out.below bU)
  clear bU
  have b7 := Below.refl U7.heap.size U7
  clear ba
  go_wp2_with fail
  refine (C4.out _ (Below.more BW b7)).mono ?_
  rintro e w8 ⟨rfl, b⟩
  have b8 := Below.more b7 b
  clear b
  have ba := fun x => Below.alloc b8 (Below.size b8) x
  go_wp2_with fail
  obtain ⟨U9, hU, bU, s9, rx0, rx1⟩ := lay b8 (.string ⟨#[]⟩) (.string ⟨#[]⟩) 24
  rw [hU]; clear hU
  clear s9
  replace rp0 := fun v (h : Below U9.heap.size U9 v) => rp0 v (Below.more bU h)
  replace rp1 := fun v (h : Below U9.heap.size U9 v) => rp1 v (Below.more bU h)
  replace rq0 := fun v (h : Below U9.heap.size U9 v) => rq0 v (Below.more bU h)
  replace rq1 := fun v (h : Below U9.heap.size U9 v) => rq1 v (Below.more bU h)
  replace BW := Below.more BW bU
  replace HT := Lib.hid (HT.out.below bU)
  clear bU
  have b9 := Below.refl U9.heap.size U9
  clear ba
  go_wp2_with fail
  go_ret
  exact ⟨ret_bool (by first | rfl | simp), Below.more BW b9⟩
set_option maxRecDepth 100000 in
set_option maxHeartbeats 4000000 in
theorem la12_B (p : Option Addr) (c : Nat) (l : List Fx.Fix) (u : List UInt8) (t : Int) (w : World) (h1 : ¬ (100 : Int) < (u.length : Int)) (h2 : ¬ t < -1) (h3 : ¬ 10000 < t) (h4 : ¬ t < 0) (k1 k2 : List UInt8) (kz : Bool)
    (CS : Hid (∀ V, Below w.heap.size w V → Calls Tryd.prog 7 #[.slice p l.length c] V (GiveB V true)))
    (CM : Hid (∀ V, Below w.heap.size w V → Calls Tryd.prog 17 #[.slice p l.length c] V (GiveB V true)))
    (C1 : Hid (∀ V, Below w.heap.size w V → Calls Tryd.prog 13 #[.slice p l.length c, .string ⟨u.toArray⟩, .int .i64 t] V (GiveRB V ((k1, k2), kz))))
    (C2 : Hid (∀ V, Below w.heap.size w V → Calls Tryd.prog 11 #[.slice p l.length c, .string ⟨u.toArray⟩, .int .i64 t] V (fun r w' => r = .returned (.tuple #[.agg #[.string ⟨#[]⟩, .string ⟨#[]⟩], .bool false]) ∧ Below V.heap.size V w')))
    (C3 : Hid (∀ V, Below w.heap.size w V → Calls Tryd.prog 13 #[.slice p l.length c, .string ⟨u.toArray⟩, .int .i64 (t - 1)] V (GiveRB V ((k1, k2), kz))))
    (C4 : Hid (∀ V, Below w.heap.size w V → Calls Tryd.prog 13 #[.slice p l.length c, .string ⟨u.toArray⟩, .int .i64 (-1)] V (fun r w' => r = .returned (.tuple #[.agg #[.string ⟨#[]⟩, .string ⟨#[]⟩], .bool false]) ∧ Below V.heap.size V w'))) :
    Calls Tryd.prog 5 #[.slice p l.length c, .string ⟨u.toArray⟩, .int .i64 t] w (GiveB w true) := by
  have HT : Hid (NoB w) := Lib.hid (noB w)
  go_enter Tryd.func5, Tryd.ntmps5
  go_wp2_with fail
  have BW := Below.refl w.heap.size w
  have b0 : Below w.heap.size w w := Below.refl _ _
  refine (fixed12_any _).mono ?_
  rintro e w1 ⟨rfl, b⟩
  have b1 := Below.more b0 b
  clear b
  go_wp2_with fail
  refine (CS.out _ (Below.more BW b1)).mono ?_
  rintro e w2 ⟨rfl, b⟩
  have b2 := Below.more b1 b
  clear b
  go_wp2_with fail
  refine (CM.out _ (Below.more BW b2)).mono ?_
  rintro e w3 ⟨rfl, b⟩
  have b3 := Below.more b2 b
  clear b
  go_wp2_with fail
  refine (C1.out _ (Below.more BW b3)).mono ?_
  rintro e w4 ⟨rfl, b⟩
  have b4 := Below.more b3 b
  clear b
  have ba := fun x => Below.alloc b4 (Below.size b4) x
  go_wp2_with fail
  obtain ⟨U5, hU, bU, s5, rp0, rp1⟩ := lay b4 (.string ⟨k1.toArray⟩) (.string ⟨k2.toArray⟩) 24
  rw [hU]; clear hU
  clear s5
  replace BW := Below.more BW bU
  replace HT := Lib.hid (HT.out.below bU)
  clear bU
  have b5 := Below.refl U5.heap.size U5
  clear ba
  have hw1 : IntKind.i64.wrap (t - 1) = t - 1 := IntWalk.i64_in _ (by omega)
  go_wp2_with fail
  refine (C2.out _ (Below.more BW b5)).mono ?_
  rintro e w6 ⟨rfl, b⟩
  have b6 := Below.more b5 b
  clear b
  have ba := fun x => Below.alloc b6 (Below.size b6) x
  go_wp2_with fail
  obtain ⟨V, hV⟩ : ∃ V, w6.alloc (.cells #[.string ⟨#[]⟩, .string ⟨#[]⟩] 24) = V := ⟨_, rfl⟩
  rw [hV]
  have hz : Zc w6.heap.size (.string ⟨#[]⟩) (.string ⟨#[]⟩) V := hV ▸ zc_new _ _ _ _
  have bV : Below U5.heap.size U5 V := hV ▸ ba _
  have HQ := Lib.hid (Below.size b6)
  clear hV ba
  (try rw [hw1])
  refine (C3.out _ (Below.more BW bV)).mono ?_
  rintro e0 wv ⟨rfl, b⟩
  have bv := Below.more bV b
  replace hz := hz.below b
  have z0 := hz.c0; have z1 := hz.c1; have z2 := hz.f0; have z3 := hz.f1
  clear b
  go_wp2_with fail
  have hZ := zc_put (x := .string ⟨k1.toArray⟩) (y := .string ⟨k2.toArray⟩) hz
  have bS := put2 bv HQ.out (.string ⟨k1.toArray⟩) (.string ⟨k2.toArray⟩)
  generalize ((wv.setCell ⟨w6.heap.size, 0, none⟩ (.string ⟨k1.toArray⟩)).setCell ⟨w6.heap.size, 1, none⟩ (.string ⟨k2.toArray⟩)) = Y at *
  clear z0 z1 z2 z3 hz bV bv hw1
  replace rp0 := fun v (h : Below Y.heap.size Y v) => rp0 v (Below.more bS h)
  replace rp1 := fun v (h : Below Y.heap.size Y v) => rp1 v (Below.more bS h)
  replace BW := Below.more BW bS
  replace HT := Lib.hid (HT.out.below bS)
  have rq0 := fun v (h : Below Y.heap.size Y v) => (hZ.below h).c0
  have rq1 := fun v (h : Below Y.heap.size Y v) => (hZ.below h).c1
  clear hZ bS
  have b40 := Below.refl Y.heap.size Y
  refine (C4.out _ (Below.more BW b40)).mono ?_
  rintro e w41 ⟨rfl, b⟩
  have b41 := Below.more b40 b
  clear b
  have ba := fun x => Below.alloc b41 (Below.size b41) x
  go_wp2_with fail
  obtain ⟨U42, hU, bU, s42, rx0, rx1⟩ := lay b41 (.string ⟨#[]⟩) (.string ⟨#[]⟩) 24
  rw [hU]; clear hU
  clear s42
  replace rp0 := fun v (h : Below U42.heap.size U42 v) => rp0 v (Below.more bU h)
  replace rp1 := fun v (h : Below U42.heap.size U42 v) => rp1 v (Below.more bU h)
  replace rq0 := fun v (h : Below U42.heap.size U42 v) => rq0 v (Below.more bU h)
  replace rq1 := fun v (h : Below U42.heap.size U42 v) => rq1 v (Below.more bU h)
  replace BW := Below.more BW bU
  replace HT := Lib.hid (HT.out.below bU)
  clear bU
  have b42 := Below.refl U42.heap.size U42
  clear ba
  go_wp2_with fail
  go_ret
  exact ⟨ret_bool (by first | rfl | simp), Below.more BW b42⟩
set_option maxRecDepth 100000 in
set_option maxHeartbeats 4000000 in
theorem la12_C (p : Option Addr) (c : Nat) (l : List Fx.Fix) (u : List UInt8) (t : Int) (w : World) (h1 : ¬ (100 : Int) < (u.length : Int)) (h2 : ¬ t < -1) (h3 : ¬ 10000 < t) (h4 : t < 0)
    (CS : Hid (∀ V, Below w.heap.size w V → Calls Tryd.prog 7 #[.slice p l.length c] V (GiveB V true)))
    (CM : Hid (∀ V, Below w.heap.size w V → Calls Tryd.prog 17 #[.slice p l.length c] V (GiveB V true)))
    (C1 : Hid (∀ V, Below w.heap.size w V → Calls Tryd.prog 13 #[.slice p l.length c, .string ⟨u.toArray⟩, .int .i64 t] V (fun r w' => r = .returned (.tuple #[.agg #[.string ⟨#[]⟩, .string ⟨#[]⟩], .bool false]) ∧ Below V.heap.size V w')))
    (C2 : Hid (∀ V, Below w.heap.size w V → Calls Tryd.prog 11 #[.slice p l.length c, .string ⟨u.toArray⟩, .int .i64 t] V (fun r w' => r = .returned (.tuple #[.agg #[.string ⟨#[]⟩, .string ⟨#[]⟩], .bool false]) ∧ Below V.heap.size V w')))
    (C3 : Hid (∀ V, Below w.heap.size w V → Calls Tryd.prog 13 #[.slice p l.length c, .string ⟨u.toArray⟩, .int .i64 (t - 1)] V (fun r w' => r = .returned (.tuple #[.agg #[.string ⟨#[]⟩, .string ⟨#[]⟩], .bool false]) ∧ Below V.heap.size V w')))
    (C4 : Hid (∀ V, Below w.heap.size w V → Calls Tryd.prog 13 #[.slice p l.length c, .string ⟨u.toArray⟩, .int .i64 (-1)] V (fun r w' => r = .returned (.tuple #[.agg #[.string ⟨#[]⟩, .string ⟨#[]⟩], .bool false]) ∧ Below V.heap.size V w'))) :
    Calls Tryd.prog 5 #[.slice p l.length c, .string ⟨u.toArray⟩, .int .i64 t] w (GiveB w true) := by
  have HT : Hid (NoB w) := Lib.hid (noB w)
  go_enter Tryd.func5, Tryd.ntmps5
  go_wp2_with fail
  have BW := Below.refl w.heap.size w
  have b0 : Below w.heap.size w w := Below.refl _ _
  refine (fixed12_any _).mono ?_
  rintro e w1 ⟨rfl, b⟩
  have b1 := Below.more b0 b
  clear b
  go_wp2_with fail
  refine (CS.out _ (Below.more BW b1)).mono ?_
  rintro e w2 ⟨rfl, b⟩
  have b2 := Below.more b1 b
  clear b
  go_wp2_with fail
  refine (CM.out _ (Below.more BW b2)).mono ?_
  rintro e w3 ⟨rfl, b⟩
  have b3 := Below.more b2 b
  clear b
  go_wp2_with fail
  refine (C1.out _ (Below.more BW b3)).mono ?_
  rintro e w4 ⟨rfl, b⟩
  have b4 := Below.more b3 b
  clear b
  have ba := fun x => Below.alloc b4 (Below.size b4) x
  go_wp2_with fail
  obtain ⟨U5, hU, bU, s5, rp0, rp1⟩ := lay b4 (.string ⟨#[]⟩) (.string ⟨#[]⟩) 24
  rw [hU]; clear hU
  clear s5
  replace BW := Below.more BW bU
  replace HT := Lib.hid (HT.out.below bU)
  clear bU
  have b5 := Below.refl U5.heap.size U5
  clear ba
  have hw1 : IntKind.i64.wrap (t - 1) = t - 1 := IntWalk.i64_in _ (by omega)
  go_wp2_with fail
  refine (C2.out _ (Below.more BW b5)).mono ?_
  rintro e w6 ⟨rfl, b⟩
  have b6 := Below.more b5 b
  clear b
  have ba := fun x => Below.alloc b6 (Below.size b6) x
  go_wp2_with fail
  obtain ⟨V, hV⟩ : ∃ V, w6.alloc (.cells #[.string ⟨#[]⟩, .string ⟨#[]⟩] 24) = V := ⟨_, rfl⟩
  rw [hV]
  have hz : Zc w6.heap.size (.string ⟨#[]⟩) (.string ⟨#[]⟩) V := hV ▸ zc_new _ _ _ _
  have bV : Below U5.heap.size U5 V := hV ▸ ba _
  have HQ := Lib.hid (Below.size b6)
  clear hV ba
  (try rw [hw1])
  refine (C3.out _ (Below.more BW bV)).mono ?_
  rintro e0 wv ⟨rfl, b⟩
  have bv := Below.more bV b
  replace hz := hz.below b
  have z0 := hz.c0; have z1 := hz.c1; have z2 := hz.f0; have z3 := hz.f1
  clear b
  go_wp2_with fail
  have hZ := zc_put (x := .string ⟨#[]⟩) (y := .string ⟨#[]⟩) hz
  have bS := put2 bv HQ.out (.string ⟨#[]⟩) (.string ⟨#[]⟩)
  generalize ((wv.setCell ⟨w6.heap.size, 0, none⟩ (.string ⟨#[]⟩)).setCell ⟨w6.heap.size, 1, none⟩ (.string ⟨#[]⟩)) = Y at *
  clear z0 z1 z2 z3 hz bV bv hw1
  replace rp0 := fun v (h : Below Y.heap.size Y v) => rp0 v (Below.more bS h)
  replace rp1 := fun v (h : Below Y.heap.size Y v) => rp1 v (Below.more bS h)
  replace BW := Below.more BW bS
  replace HT := Lib.hid (HT.out.below bS)
  have rq0 := fun v (h : Below Y.heap.size Y v) => (hZ.below h).c0
  have rq1 := fun v (h : Below Y.heap.size Y v) => (hZ.below h).c1
  clear hZ bS
  have b40 := Below.refl Y.heap.size Y
  refine (C4.out _ (Below.more BW b40)).mono ?_
  rintro e w41 ⟨rfl, b⟩
  have b41 := Below.more b40 b
  clear b
  have ba := fun x => Below.alloc b41 (Below.size b41) x
  go_wp2_with fail
  go_ret
  exact ⟨ret_bool (by first | rfl | simp), Below.more BW (ba _)⟩
theorem last12_any (p : Option Addr) (c : Nat) (l : List Fx.Fix) (u : List UInt8) (t : Int) (w : World) (hc : l.length ≤ c) (hl : l.length ≤ 4611686018427387904) (ht0 : -9223372036854775808 ≤ t) (ht1 : t ≤ 9223372036854775807) (h : Fxs w p l) :
    Calls Tryd.prog 5 #[.slice p l.length c, .string ⟨u.toArray⟩, .int .i64 t] w (GiveB w true) := by
  have cs := fun V (hV : Below w.heap.size w V) => rfsmall_any p c l V hc hl (h.below hV)
  cases h1 : smallX l with
  | false => rw [h1] at cs; exact la12_1 p c l u t w (Lib.hid cs)
  | true =>
  rw [h1] at cs
  have hz := small_szX h1
  have h60 := (smallX_iff.1 h1).2
  have cm := fun V (hV : Below w.heap.size w V) => rfmay_any p c l V hc hl hz (h.below hV)
  cases h2 : Fx.mayF l with
  | false => rw [h2] at cm; exact la12_2 p c l u t w (Lib.hid cs) (Lib.hid cm)
  | true =>
  rw [h2] at cm
  by_cases h3 : (100 : Int) < (u.length : Int)
  · exact la12_3 p c l u t w h3 (Lib.hid cs) (Lib.hid cm)
  by_cases h4 : t < -1
  · exact la12_4 p c l u t w h3 h4 (Lib.hid cs) (Lib.hid cm)
  by_cases h5 : 10000 < t
  · exact la12_5 p c l u t w h3 h4 h5 (Lib.hid cs) (Lib.hid cm)
  have hg := Fx.good_iffF.1 h2
  have cl := fun t V (hV : Below w.heap.size w V) => fflast_any p c l u t V hc (by omega) hz (h.below hV)
  have cg := fun V (hV : Below w.heap.size w V) => ffget_any p c l u t V hc (by omega) hz (h.below hV)
  have c4 := cl (-1)
  rw [Fx.late_neg hg u (show (-1 : Int) < 0 by decide)] at c4
  have hd := Fx.late_day hg u t
  by_cases h6 : t < 0
  · have c1 := cl t
    have c3 := cl (t - 1)
    rw [Fx.late_neg hg u h6] at c1 hd
    rw [Fx.late_neg hg u (show t - 1 < 0 by omega)] at c3 hd
    have e : Fx.getF l (u, t) = none := by
      cases k : Fx.getF l (u, t) with
      | none => rfl
      | some q => rw [k] at hd; cases hd
    rw [e] at cg
    exact la12_C p c l u t w h3 h4 h5 h6 (Lib.hid cs) (Lib.hid cm) (Lib.hid c1) (Lib.hid cg) (Lib.hid c3) (Lib.hid c4)
  · cases k : Fx.getF l (u, t) with
    | some q =>
      rw [k] at cg hd
      have c1 := cl t
      rw [hd] at c1
      exact la12_A p c l u t w h3 h4 h5 h6 q.1 q.2 (Lib.hid cs) (Lib.hid cm) (Lib.hid c1) (Lib.hid cg) (Lib.hid c4)
    | none =>
      rw [k] at cg hd
      have c1 := cl t
      have c3 := cl (t - 1)
      have hd : Fx.lastF l (u, t) = Fx.lastF l (u, t - 1) := hd
      rw [hd] at c1
      exact la12_B p c l u t w h3 h4 h5 h6 (optR (Fx.lastF l (u, t - 1))).1 (optR (Fx.lastF l (u, t - 1))).2 (Fx.lastF l (u, t - 1)).isSome (Lib.hid cs) (Lib.hid cm) (Lib.hid c1) (Lib.hid cg) (Lib.hid c3) (Lib.hid c4)
end Go.Proofs.YtmllklfjngapiaaDoor
