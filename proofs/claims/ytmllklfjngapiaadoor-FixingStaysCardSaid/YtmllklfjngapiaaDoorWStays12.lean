/- FixingStays. -/
import Derived.Test.YtmllklfjngapiaaDoorFixF
namespace Go.Proofs.YtmllklfjngapiaaDoor
open Go.RowKit
set_option linter.unusedSimpArgs false
set_option linter.unusedVariables false
set_option maxRecDepth 100000 in
set_option maxHeartbeats 4000000 in
theorem sy12_1 (p : Option Addr) (c : Nat) (l : List Fx.Fix) (a : List UInt8) (d : Int) (n e u : List UInt8) (t : Int) (m k : List UInt8) (w : World)
    (CS : Hid (∀ V, Below w.heap.size w V → Calls Tryd.prog 7 #[.slice p l.length c] V (GiveB V false))) :
    Calls Tryd.prog 4 #[.slice p l.length c, .agg #[.string ⟨a.toArray⟩, .int .i64 d, .string ⟨n.toArray⟩, .string ⟨e.toArray⟩], .agg #[.string ⟨u.toArray⟩, .int .i64 t, .string ⟨m.toArray⟩, .string ⟨k.toArray⟩]] w (GiveB w true) := by
  have HT : Hid (NoB w) := Lib.hid (noB w)
  go_enter Tryd.func4, Tryd.ntmps4
  go_wp2_with fail
  have BW := Below.refl w.heap.size w
  have b0 : Below w.heap.size w w := Below.refl _ _
  obtain ⟨U1, hU, bU, s1, rf0, rf1, rf2, rf3⟩ := lay4 b0 (.string ⟨a.toArray⟩) (.int .i64 d) (.string ⟨n.toArray⟩) (.string ⟨e.toArray⟩) 26
  rw [hU]; clear hU
  replace BW := Below.more BW bU
  replace HT := Lib.hid (HT.out.below bU)
  clear bU
  have b1 := Below.refl U1.heap.size U1
  obtain ⟨U2, hU, bU, s2, rg0, rg1, rg2, rg3⟩ := lay4 b1 (.string ⟨u.toArray⟩) (.int .i64 t) (.string ⟨m.toArray⟩) (.string ⟨k.toArray⟩) 26
  rw [hU]; clear hU
  rw [← s1] at rg0 rg1 rg2 rg3
  clear s2
  replace rf0 := fun v (h : Below U2.heap.size U2 v) => rf0 v (Below.more bU h)
  replace rf1 := fun v (h : Below U2.heap.size U2 v) => rf1 v (Below.more bU h)
  replace rf2 := fun v (h : Below U2.heap.size U2 v) => rf2 v (Below.more bU h)
  replace rf3 := fun v (h : Below U2.heap.size U2 v) => rf3 v (Below.more bU h)
  replace BW := Below.more BW bU
  replace HT := Lib.hid (HT.out.below bU)
  clear bU
  have b2 := Below.refl U2.heap.size U2
  clear s1
  refine (fixed12_any _).mono ?_
  rintro e w3 ⟨rfl, b⟩
  have b3 := Below.more b2 b
  clear b
  go_wp2_with fail
  refine (CS.out _ (Below.more BW b3)).mono ?_
  rintro e w4 ⟨rfl, b⟩
  have b4 := Below.more b3 b
  clear b
  go_wp2_with fail
  refine (fixed12_any _).mono ?_
  rintro e w5 ⟨rfl, b⟩
  have b5 := Below.more b4 b
  clear b
  go_wp2_with fail
  go_ret
  exact ⟨ret_bool (by first | rfl | simp), Below.more BW b5⟩
set_option maxRecDepth 100000 in
set_option maxHeartbeats 4000000 in
theorem sy12_2 (p : Option Addr) (c : Nat) (l : List Fx.Fix) (a : List UInt8) (d : Int) (n e u : List UInt8) (t : Int) (m k : List UInt8) (w : World)
    (CS : Hid (∀ V, Below w.heap.size w V → Calls Tryd.prog 7 #[.slice p l.length c] V (GiveB V true)))
    (CS2 : Hid (∀ V q, Fxs V q [((a, d), (n, e)), ((u, t), (m, k))] → Calls Tryd.prog 7 #[.slice q 2 2] V (GiveB V false))) :
    Calls Tryd.prog 4 #[.slice p l.length c, .agg #[.string ⟨a.toArray⟩, .int .i64 d, .string ⟨n.toArray⟩, .string ⟨e.toArray⟩], .agg #[.string ⟨u.toArray⟩, .int .i64 t, .string ⟨m.toArray⟩, .string ⟨k.toArray⟩]] w (GiveB w true) := by
  have HT : Hid (NoB w) := Lib.hid (noB w)
  go_enter Tryd.func4, Tryd.ntmps4
  go_wp2_with fail
  have BW := Below.refl w.heap.size w
  have b0 : Below w.heap.size w w := Below.refl _ _
  obtain ⟨U1, hU, bU, s1, rf0, rf1, rf2, rf3⟩ := lay4 b0 (.string ⟨a.toArray⟩) (.int .i64 d) (.string ⟨n.toArray⟩) (.string ⟨e.toArray⟩) 26
  rw [hU]; clear hU
  replace BW := Below.more BW bU
  replace HT := Lib.hid (HT.out.below bU)
  clear bU
  have b1 := Below.refl U1.heap.size U1
  obtain ⟨U2, hU, bU, s2, rg0, rg1, rg2, rg3⟩ := lay4 b1 (.string ⟨u.toArray⟩) (.int .i64 t) (.string ⟨m.toArray⟩) (.string ⟨k.toArray⟩) 26
  rw [hU]; clear hU
  rw [← s1] at rg0 rg1 rg2 rg3
  clear s2
  replace rf0 := fun v (h : Below U2.heap.size U2 v) => rf0 v (Below.more bU h)
  replace rf1 := fun v (h : Below U2.heap.size U2 v) => rf1 v (Below.more bU h)
  replace rf2 := fun v (h : Below U2.heap.size U2 v) => rf2 v (Below.more bU h)
  replace rf3 := fun v (h : Below U2.heap.size U2 v) => rf3 v (Below.more bU h)
  replace BW := Below.more BW bU
  replace HT := Lib.hid (HT.out.below bU)
  clear bU
  have b2 := Below.refl U2.heap.size U2
  clear s1
  refine (fixed12_any _).mono ?_
  rintro e w3 ⟨rfl, b⟩
  have b3 := Below.more b2 b
  clear b
  go_wp2_with fail
  refine (CS.out _ (Below.more BW b3)).mono ?_
  rintro e w4 ⟨rfl, b⟩
  have b4 := Below.more b3 b
  clear b
  go_wp2_with fail
  have hrow := rowsLit (enc := encX) (k := 4) (fun _ => rfl) w4 [((a, d), (n, e)), ((u, t), (m, k))] #[.string ⟨a.toArray⟩, .int .i64 d, .string ⟨n.toArray⟩, .string ⟨e.toArray⟩, .string ⟨u.toArray⟩, .int .i64 t, .string ⟨m.toArray⟩, .string ⟨k.toArray⟩] 26 rfl
  have bn : Below w4.heap.size w4 (w4.alloc (.cells #[.string ⟨a.toArray⟩, .int .i64 d, .string ⟨n.toArray⟩, .string ⟨e.toArray⟩, .string ⟨u.toArray⟩, .int .i64 t, .string ⟨m.toArray⟩, .string ⟨k.toArray⟩] 26)) := Below.alloc (Below.refl _ _) (Nat.le_refl _) _
  obtain ⟨U5, hU⟩ : ∃ U, w4.alloc (.cells #[.string ⟨a.toArray⟩, .int .i64 d, .string ⟨n.toArray⟩, .string ⟨e.toArray⟩, .string ⟨u.toArray⟩, .int .i64 t, .string ⟨m.toArray⟩, .string ⟨k.toArray⟩] 26) = U := ⟨_, rfl⟩
  rw [hU] at hrow bn ⊢
  have bU := Below.more b4 bn
  replace rf0 := fun v (h : Below U5.heap.size U5 v) => rf0 v (Below.more bU h)
  replace rf1 := fun v (h : Below U5.heap.size U5 v) => rf1 v (Below.more bU h)
  replace rf2 := fun v (h : Below U5.heap.size U5 v) => rf2 v (Below.more bU h)
  replace rf3 := fun v (h : Below U5.heap.size U5 v) => rf3 v (Below.more bU h)
  replace rg0 := fun v (h : Below U5.heap.size U5 v) => rg0 v (Below.more bU h)
  replace rg1 := fun v (h : Below U5.heap.size U5 v) => rg1 v (Below.more bU h)
  replace rg2 := fun v (h : Below U5.heap.size U5 v) => rg2 v (Below.more bU h)
  replace rg3 := fun v (h : Below U5.heap.size U5 v) => rg3 v (Below.more bU h)
  replace BW := Below.more BW bU
  replace HT := Lib.hid (HT.out.below bU)
  have Lf := Lib.hid hrow
  clear hrow bU bn hU
  have b5 := Below.refl U5.heap.size U5
  refine (CS2.out _ _ (Lf.out.below b5)).mono ?_
  rintro e w6 ⟨rfl, b⟩
  have b6 := Below.more b5 b
  clear b
  go_wp2_with fail
  refine (fixed12_any _).mono ?_
  rintro e w7 ⟨rfl, b⟩
  have b7 := Below.more b6 b
  clear b
  go_wp2_with fail
  go_ret
  exact ⟨ret_bool (by first | rfl | simp), Below.more BW b7⟩
set_option maxRecDepth 100000 in
set_option maxHeartbeats 4000000 in
theorem sy12_3 (p : Option Addr) (c : Nat) (l : List Fx.Fix) (a : List UInt8) (d : Int) (n e u : List UInt8) (t : Int) (m k : List UInt8) (w : World)
    (CS : Hid (∀ V, Below w.heap.size w V → Calls Tryd.prog 7 #[.slice p l.length c] V (GiveB V true)))
    (CS2 : Hid (∀ V q, Fxs V q [((a, d), (n, e)), ((u, t), (m, k))] → Calls Tryd.prog 7 #[.slice q 2 2] V (GiveB V true)))
    (CM : Hid (∀ V, Below w.heap.size w V → Calls Tryd.prog 17 #[.slice p l.length c] V (GiveB V false))) :
    Calls Tryd.prog 4 #[.slice p l.length c, .agg #[.string ⟨a.toArray⟩, .int .i64 d, .string ⟨n.toArray⟩, .string ⟨e.toArray⟩], .agg #[.string ⟨u.toArray⟩, .int .i64 t, .string ⟨m.toArray⟩, .string ⟨k.toArray⟩]] w (GiveB w true) := by
  have HT : Hid (NoB w) := Lib.hid (noB w)
  go_enter Tryd.func4, Tryd.ntmps4
  go_wp2_with fail
  have BW := Below.refl w.heap.size w
  have b0 : Below w.heap.size w w := Below.refl _ _
  obtain ⟨U1, hU, bU, s1, rf0, rf1, rf2, rf3⟩ := lay4 b0 (.string ⟨a.toArray⟩) (.int .i64 d) (.string ⟨n.toArray⟩) (.string ⟨e.toArray⟩) 26
  rw [hU]; clear hU
  replace BW := Below.more BW bU
  replace HT := Lib.hid (HT.out.below bU)
  clear bU
  have b1 := Below.refl U1.heap.size U1
  obtain ⟨U2, hU, bU, s2, rg0, rg1, rg2, rg3⟩ := lay4 b1 (.string ⟨u.toArray⟩) (.int .i64 t) (.string ⟨m.toArray⟩) (.string ⟨k.toArray⟩) 26
  rw [hU]; clear hU
  rw [← s1] at rg0 rg1 rg2 rg3
  clear s2
  replace rf0 := fun v (h : Below U2.heap.size U2 v) => rf0 v (Below.more bU h)
  replace rf1 := fun v (h : Below U2.heap.size U2 v) => rf1 v (Below.more bU h)
  replace rf2 := fun v (h : Below U2.heap.size U2 v) => rf2 v (Below.more bU h)
  replace rf3 := fun v (h : Below U2.heap.size U2 v) => rf3 v (Below.more bU h)
  replace BW := Below.more BW bU
  replace HT := Lib.hid (HT.out.below bU)
  clear bU
  have b2 := Below.refl U2.heap.size U2
  clear s1
  refine (fixed12_any _).mono ?_
  rintro e w3 ⟨rfl, b⟩
  have b3 := Below.more b2 b
  clear b
  go_wp2_with fail
  refine (CS.out _ (Below.more BW b3)).mono ?_
  rintro e w4 ⟨rfl, b⟩
  have b4 := Below.more b3 b
  clear b
  go_wp2_with fail
  have hrow := rowsLit (enc := encX) (k := 4) (fun _ => rfl) w4 [((a, d), (n, e)), ((u, t), (m, k))] #[.string ⟨a.toArray⟩, .int .i64 d, .string ⟨n.toArray⟩, .string ⟨e.toArray⟩, .string ⟨u.toArray⟩, .int .i64 t, .string ⟨m.toArray⟩, .string ⟨k.toArray⟩] 26 rfl
  have bn : Below w4.heap.size w4 (w4.alloc (.cells #[.string ⟨a.toArray⟩, .int .i64 d, .string ⟨n.toArray⟩, .string ⟨e.toArray⟩, .string ⟨u.toArray⟩, .int .i64 t, .string ⟨m.toArray⟩, .string ⟨k.toArray⟩] 26)) := Below.alloc (Below.refl _ _) (Nat.le_refl _) _
  obtain ⟨U5, hU⟩ : ∃ U, w4.alloc (.cells #[.string ⟨a.toArray⟩, .int .i64 d, .string ⟨n.toArray⟩, .string ⟨e.toArray⟩, .string ⟨u.toArray⟩, .int .i64 t, .string ⟨m.toArray⟩, .string ⟨k.toArray⟩] 26) = U := ⟨_, rfl⟩
  rw [hU] at hrow bn ⊢
  have bU := Below.more b4 bn
  replace rf0 := fun v (h : Below U5.heap.size U5 v) => rf0 v (Below.more bU h)
  replace rf1 := fun v (h : Below U5.heap.size U5 v) => rf1 v (Below.more bU h)
  replace rf2 := fun v (h : Below U5.heap.size U5 v) => rf2 v (Below.more bU h)
  replace rf3 := fun v (h : Below U5.heap.size U5 v) => rf3 v (Below.more bU h)
  replace rg0 := fun v (h : Below U5.heap.size U5 v) => rg0 v (Below.more bU h)
  replace rg1 := fun v (h : Below U5.heap.size U5 v) => rg1 v (Below.more bU h)
  replace rg2 := fun v (h : Below U5.heap.size U5 v) => rg2 v (Below.more bU h)
  replace rg3 := fun v (h : Below U5.heap.size U5 v) => rg3 v (Below.more bU h)
  replace BW := Below.more BW bU
  replace HT := Lib.hid (HT.out.below bU)
  have Lf := Lib.hid hrow
  clear hrow bU bn hU
  have b5 := Below.refl U5.heap.size U5
  refine (CS2.out _ _ (Lf.out.below b5)).mono ?_
  rintro e w6 ⟨rfl, b⟩
  have b6 := Below.more b5 b
  clear b
  go_wp2_with fail
  refine (CM.out _ (Below.more BW b6)).mono ?_
  rintro e w7 ⟨rfl, b⟩
  have b7 := Below.more b6 b
  clear b
  go_wp2_with fail
  refine (fixed12_any _).mono ?_
  rintro e w8 ⟨rfl, b⟩
  have b8 := Below.more b7 b
  clear b
  go_wp2_with fail
  go_ret
  exact ⟨ret_bool (by first | rfl | simp), Below.more BW b8⟩
set_option maxRecDepth 100000 in
set_option maxHeartbeats 4000000 in
theorem sy12_4 (p : Option Addr) (c : Nat) (l : List Fx.Fix) (a : List UInt8) (d : Int) (n e u : List UInt8) (t : Int) (m k : List UInt8) (w : World)
    (CS : Hid (∀ V, Below w.heap.size w V → Calls Tryd.prog 7 #[.slice p l.length c] V (GiveB V true)))
    (CS2 : Hid (∀ V q, Fxs V q [((a, d), (n, e)), ((u, t), (m, k))] → Calls Tryd.prog 7 #[.slice q 2 2] V (GiveB V true)))
    (CM : Hid (∀ V, Below w.heap.size w V → Calls Tryd.prog 17 #[.slice p l.length c] V (GiveB V true)))
    (CO : Hid (∀ V, Calls Tryd.prog 18 #[.agg #[.string ⟨a.toArray⟩, .int .i64 d, .string ⟨n.toArray⟩, .string ⟨e.toArray⟩]] V (GiveB V false))) :
    Calls Tryd.prog 4 #[.slice p l.length c, .agg #[.string ⟨a.toArray⟩, .int .i64 d, .string ⟨n.toArray⟩, .string ⟨e.toArray⟩], .agg #[.string ⟨u.toArray⟩, .int .i64 t, .string ⟨m.toArray⟩, .string ⟨k.toArray⟩]] w (GiveB w true) := by
  have HT : Hid (NoB w) := Lib.hid (noB w)
  go_enter Tryd.func4, Tryd.ntmps4
  go_wp2_with fail
  have BW := Below.refl w.heap.size w
  have b0 : Below w.heap.size w w := Below.refl _ _
  obtain ⟨U1, hU, bU, s1, rf0, rf1, rf2, rf3⟩ := lay4 b0 (.string ⟨a.toArray⟩) (.int .i64 d) (.string ⟨n.toArray⟩) (.string ⟨e.toArray⟩) 26
  rw [hU]; clear hU
  replace BW := Below.more BW bU
  replace HT := Lib.hid (HT.out.below bU)
  clear bU
  have b1 := Below.refl U1.heap.size U1
  obtain ⟨U2, hU, bU, s2, rg0, rg1, rg2, rg3⟩ := lay4 b1 (.string ⟨u.toArray⟩) (.int .i64 t) (.string ⟨m.toArray⟩) (.string ⟨k.toArray⟩) 26
  rw [hU]; clear hU
  rw [← s1] at rg0 rg1 rg2 rg3
  clear s2
  replace rf0 := fun v (h : Below U2.heap.size U2 v) => rf0 v (Below.more bU h)
  replace rf1 := fun v (h : Below U2.heap.size U2 v) => rf1 v (Below.more bU h)
  replace rf2 := fun v (h : Below U2.heap.size U2 v) => rf2 v (Below.more bU h)
  replace rf3 := fun v (h : Below U2.heap.size U2 v) => rf3 v (Below.more bU h)
  replace BW := Below.more BW bU
  replace HT := Lib.hid (HT.out.below bU)
  clear bU
  have b2 := Below.refl U2.heap.size U2
  clear s1
  refine (fixed12_any _).mono ?_
  rintro e w3 ⟨rfl, b⟩
  have b3 := Below.more b2 b
  clear b
  go_wp2_with fail
  refine (CS.out _ (Below.more BW b3)).mono ?_
  rintro e w4 ⟨rfl, b⟩
  have b4 := Below.more b3 b
  clear b
  go_wp2_with fail
  have hrow := rowsLit (enc := encX) (k := 4) (fun _ => rfl) w4 [((a, d), (n, e)), ((u, t), (m, k))] #[.string ⟨a.toArray⟩, .int .i64 d, .string ⟨n.toArray⟩, .string ⟨e.toArray⟩, .string ⟨u.toArray⟩, .int .i64 t, .string ⟨m.toArray⟩, .string ⟨k.toArray⟩] 26 rfl
  have bn : Below w4.heap.size w4 (w4.alloc (.cells #[.string ⟨a.toArray⟩, .int .i64 d, .string ⟨n.toArray⟩, .string ⟨e.toArray⟩, .string ⟨u.toArray⟩, .int .i64 t, .string ⟨m.toArray⟩, .string ⟨k.toArray⟩] 26)) := Below.alloc (Below.refl _ _) (Nat.le_refl _) _
  obtain ⟨U5, hU⟩ : ∃ U, w4.alloc (.cells #[.string ⟨a.toArray⟩, .int .i64 d, .string ⟨n.toArray⟩, .string ⟨e.toArray⟩, .string ⟨u.toArray⟩, .int .i64 t, .string ⟨m.toArray⟩, .string ⟨k.toArray⟩] 26) = U := ⟨_, rfl⟩
  rw [hU] at hrow bn ⊢
  have bU := Below.more b4 bn
  replace rf0 := fun v (h : Below U5.heap.size U5 v) => rf0 v (Below.more bU h)
  replace rf1 := fun v (h : Below U5.heap.size U5 v) => rf1 v (Below.more bU h)
  replace rf2 := fun v (h : Below U5.heap.size U5 v) => rf2 v (Below.more bU h)
  replace rf3 := fun v (h : Below U5.heap.size U5 v) => rf3 v (Below.more bU h)
  replace rg0 := fun v (h : Below U5.heap.size U5 v) => rg0 v (Below.more bU h)
  replace rg1 := fun v (h : Below U5.heap.size U5 v) => rg1 v (Below.more bU h)
  replace rg2 := fun v (h : Below U5.heap.size U5 v) => rg2 v (Below.more bU h)
  replace rg3 := fun v (h : Below U5.heap.size U5 v) => rg3 v (Below.more bU h)
  replace BW := Below.more BW bU
  replace HT := Lib.hid (HT.out.below bU)
  have Lf := Lib.hid hrow
  clear hrow bU bn hU
  have b5 := Below.refl U5.heap.size U5
  refine (CS2.out _ _ (Lf.out.below b5)).mono ?_
  rintro e w6 ⟨rfl, b⟩
  have b6 := Below.more b5 b
  clear b
  go_wp2_with fail
  refine (CM.out _ (Below.more BW b6)).mono ?_
  rintro e w7 ⟨rfl, b⟩
  have b7 := Below.more b6 b
  clear b
  go_wp2_with fail
  refine (CO.out _).mono ?_
  rintro e w8 ⟨rfl, b⟩
  have b8 := Below.more b7 b
  clear b
  go_wp2_with fail
  refine (fixed12_any _).mono ?_
  rintro e w9 ⟨rfl, b⟩
  have b9 := Below.more b8 b
  clear b
  go_wp2_with fail
  go_ret
  exact ⟨ret_bool (by first | rfl | simp), Below.more BW b9⟩
set_option maxRecDepth 100000 in
set_option maxHeartbeats 4000000 in
theorem sy12_5 (p : Option Addr) (c : Nat) (l : List Fx.Fix) (a : List UInt8) (d : Int) (n e u : List UInt8) (t : Int) (m k : List UInt8) (w : World)
    (CS : Hid (∀ V, Below w.heap.size w V → Calls Tryd.prog 7 #[.slice p l.length c] V (GiveB V true)))
    (CS2 : Hid (∀ V q, Fxs V q [((a, d), (n, e)), ((u, t), (m, k))] → Calls Tryd.prog 7 #[.slice q 2 2] V (GiveB V true)))
    (CM : Hid (∀ V, Below w.heap.size w V → Calls Tryd.prog 17 #[.slice p l.length c] V (GiveB V true)))
    (CO : Hid (∀ V, Calls Tryd.prog 18 #[.agg #[.string ⟨a.toArray⟩, .int .i64 d, .string ⟨n.toArray⟩, .string ⟨e.toArray⟩]] V (GiveB V true)))
    (CO2 : Hid (∀ V, Calls Tryd.prog 18 #[.agg #[.string ⟨u.toArray⟩, .int .i64 t, .string ⟨m.toArray⟩, .string ⟨k.toArray⟩]] V (GiveB V false))) :
    Calls Tryd.prog 4 #[.slice p l.length c, .agg #[.string ⟨a.toArray⟩, .int .i64 d, .string ⟨n.toArray⟩, .string ⟨e.toArray⟩], .agg #[.string ⟨u.toArray⟩, .int .i64 t, .string ⟨m.toArray⟩, .string ⟨k.toArray⟩]] w (GiveB w true) := by
  have HT : Hid (NoB w) := Lib.hid (noB w)
  go_enter Tryd.func4, Tryd.ntmps4
  go_wp2_with fail
  have BW := Below.refl w.heap.size w
  have b0 : Below w.heap.size w w := Below.refl _ _
  obtain ⟨U1, hU, bU, s1, rf0, rf1, rf2, rf3⟩ := lay4 b0 (.string ⟨a.toArray⟩) (.int .i64 d) (.string ⟨n.toArray⟩) (.string ⟨e.toArray⟩) 26
  rw [hU]; clear hU
  replace BW := Below.more BW bU
  replace HT := Lib.hid (HT.out.below bU)
  clear bU
  have b1 := Below.refl U1.heap.size U1
  obtain ⟨U2, hU, bU, s2, rg0, rg1, rg2, rg3⟩ := lay4 b1 (.string ⟨u.toArray⟩) (.int .i64 t) (.string ⟨m.toArray⟩) (.string ⟨k.toArray⟩) 26
  rw [hU]; clear hU
  rw [← s1] at rg0 rg1 rg2 rg3
  clear s2
  replace rf0 := fun v (h : Below U2.heap.size U2 v) => rf0 v (Below.more bU h)
  replace rf1 := fun v (h : Below U2.heap.size U2 v) => rf1 v (Below.more bU h)
  replace rf2 := fun v (h : Below U2.heap.size U2 v) => rf2 v (Below.more bU h)
  replace rf3 := fun v (h : Below U2.heap.size U2 v) => rf3 v (Below.more bU h)
  replace BW := Below.more BW bU
  replace HT := Lib.hid (HT.out.below bU)
  clear bU
  have b2 := Below.refl U2.heap.size U2
  clear s1
  refine (fixed12_any _).mono ?_
  rintro e w3 ⟨rfl, b⟩
  have b3 := Below.more b2 b
  clear b
  go_wp2_with fail
  refine (CS.out _ (Below.more BW b3)).mono ?_
  rintro e w4 ⟨rfl, b⟩
  have b4 := Below.more b3 b
  clear b
  go_wp2_with fail
  have hrow := rowsLit (enc := encX) (k := 4) (fun _ => rfl) w4 [((a, d), (n, e)), ((u, t), (m, k))] #[.string ⟨a.toArray⟩, .int .i64 d, .string ⟨n.toArray⟩, .string ⟨e.toArray⟩, .string ⟨u.toArray⟩, .int .i64 t, .string ⟨m.toArray⟩, .string ⟨k.toArray⟩] 26 rfl
  have bn : Below w4.heap.size w4 (w4.alloc (.cells #[.string ⟨a.toArray⟩, .int .i64 d, .string ⟨n.toArray⟩, .string ⟨e.toArray⟩, .string ⟨u.toArray⟩, .int .i64 t, .string ⟨m.toArray⟩, .string ⟨k.toArray⟩] 26)) := Below.alloc (Below.refl _ _) (Nat.le_refl _) _
  obtain ⟨U5, hU⟩ : ∃ U, w4.alloc (.cells #[.string ⟨a.toArray⟩, .int .i64 d, .string ⟨n.toArray⟩, .string ⟨e.toArray⟩, .string ⟨u.toArray⟩, .int .i64 t, .string ⟨m.toArray⟩, .string ⟨k.toArray⟩] 26) = U := ⟨_, rfl⟩
  rw [hU] at hrow bn ⊢
  have bU := Below.more b4 bn
  replace rf0 := fun v (h : Below U5.heap.size U5 v) => rf0 v (Below.more bU h)
  replace rf1 := fun v (h : Below U5.heap.size U5 v) => rf1 v (Below.more bU h)
  replace rf2 := fun v (h : Below U5.heap.size U5 v) => rf2 v (Below.more bU h)
  replace rf3 := fun v (h : Below U5.heap.size U5 v) => rf3 v (Below.more bU h)
  replace rg0 := fun v (h : Below U5.heap.size U5 v) => rg0 v (Below.more bU h)
  replace rg1 := fun v (h : Below U5.heap.size U5 v) => rg1 v (Below.more bU h)
  replace rg2 := fun v (h : Below U5.heap.size U5 v) => rg2 v (Below.more bU h)
  replace rg3 := fun v (h : Below U5.heap.size U5 v) => rg3 v (Below.more bU h)
  replace BW := Below.more BW bU
  replace HT := Lib.hid (HT.out.below bU)
  have Lf := Lib.hid hrow
  clear hrow bU bn hU
  have b5 := Below.refl U5.heap.size U5
  refine (CS2.out _ _ (Lf.out.below b5)).mono ?_
  rintro e w6 ⟨rfl, b⟩
  have b6 := Below.more b5 b
  clear b
  go_wp2_with fail
  refine (CM.out _ (Below.more BW b6)).mono ?_
  rintro e w7 ⟨rfl, b⟩
  have b7 := Below.more b6 b
  clear b
  go_wp2_with fail
  refine (CO.out _).mono ?_
  rintro e w8 ⟨rfl, b⟩
  have b8 := Below.more b7 b
  clear b
  go_wp2_with fail
  refine (CO2.out _).mono ?_
  rintro e w9 ⟨rfl, b⟩
  have b9 := Below.more b8 b
  clear b
  go_wp2_with fail
  refine (fixed12_any _).mono ?_
  rintro e w10 ⟨rfl, b⟩
  have b10 := Below.more b9 b
  clear b
  go_wp2_with fail
  go_ret
  exact ⟨ret_bool (by first | rfl | simp), Below.more BW b10⟩
set_option maxRecDepth 100000 in
set_option maxHeartbeats 4000000 in
theorem sy12_no (p : Option Addr) (c : Nat) (l : List Fx.Fix) (a : List UInt8) (d : Int) (n e u : List UInt8) (t : Int) (m k : List UInt8) (w : World) (g1 g2 : List UInt8)
    (CS : Hid (∀ V, Below w.heap.size w V → Calls Tryd.prog 7 #[.slice p l.length c] V (GiveB V true)))
    (CS2 : Hid (∀ V q, Fxs V q [((a, d), (n, e)), ((u, t), (m, k))] → Calls Tryd.prog 7 #[.slice q 2 2] V (GiveB V true)))
    (CM : Hid (∀ V, Below w.heap.size w V → Calls Tryd.prog 17 #[.slice p l.length c] V (GiveB V true)))
    (CO : Hid (∀ V, Calls Tryd.prog 18 #[.agg #[.string ⟨a.toArray⟩, .int .i64 d, .string ⟨n.toArray⟩, .string ⟨e.toArray⟩]] V (GiveB V true)))
    (CO2 : Hid (∀ V, Calls Tryd.prog 18 #[.agg #[.string ⟨u.toArray⟩, .int .i64 t, .string ⟨m.toArray⟩, .string ⟨k.toArray⟩]] V (GiveB V true)))
    (C1 : Hid (∀ V, Below w.heap.size w V → Calls Tryd.prog 11 #[.slice p l.length c, .string ⟨a.toArray⟩, .int .i64 d] V (GiveRB V ((g1, g2), true))))
    (C2 : Hid (∀ V, Below w.heap.size w V → Calls Tryd.prog 9 #[.slice p l.length c, .agg #[.string ⟨a.toArray⟩, .int .i64 d, .string ⟨n.toArray⟩, .string ⟨e.toArray⟩]] V (GiveT2 V [] false))) :
    Calls Tryd.prog 4 #[.slice p l.length c, .agg #[.string ⟨a.toArray⟩, .int .i64 d, .string ⟨n.toArray⟩, .string ⟨e.toArray⟩], .agg #[.string ⟨u.toArray⟩, .int .i64 t, .string ⟨m.toArray⟩, .string ⟨k.toArray⟩]] w (GiveB w true) := by
  have HT : Hid (NoB w) := Lib.hid (noB w)
  go_enter Tryd.func4, Tryd.ntmps4
  go_wp2_with fail
  have BW := Below.refl w.heap.size w
  have b0 : Below w.heap.size w w := Below.refl _ _
  obtain ⟨U1, hU, bU, s1, rf0, rf1, rf2, rf3⟩ := lay4 b0 (.string ⟨a.toArray⟩) (.int .i64 d) (.string ⟨n.toArray⟩) (.string ⟨e.toArray⟩) 26
  rw [hU]; clear hU
  replace BW := Below.more BW bU
  replace HT := Lib.hid (HT.out.below bU)
  clear bU
  have b1 := Below.refl U1.heap.size U1
  obtain ⟨U2, hU, bU, s2, rg0, rg1, rg2, rg3⟩ := lay4 b1 (.string ⟨u.toArray⟩) (.int .i64 t) (.string ⟨m.toArray⟩) (.string ⟨k.toArray⟩) 26
  rw [hU]; clear hU
  rw [← s1] at rg0 rg1 rg2 rg3
  clear s2
  replace rf0 := fun v (h : Below U2.heap.size U2 v) => rf0 v (Below.more bU h)
  replace rf1 := fun v (h : Below U2.heap.size U2 v) => rf1 v (Below.more bU h)
  replace rf2 := fun v (h : Below U2.heap.size U2 v) => rf2 v (Below.more bU h)
  replace rf3 := fun v (h : Below U2.heap.size U2 v) => rf3 v (Below.more bU h)
  replace BW := Below.more BW bU
  replace HT := Lib.hid (HT.out.below bU)
  clear bU
  have b2 := Below.refl U2.heap.size U2
  clear s1
  refine (fixed12_any _).mono ?_
  rintro e w3 ⟨rfl, b⟩
  have b3 := Below.more b2 b
  clear b
  go_wp2_with fail
  refine (CS.out _ (Below.more BW b3)).mono ?_
  rintro e w4 ⟨rfl, b⟩
  have b4 := Below.more b3 b
  clear b
  go_wp2_with fail
  have hrow := rowsLit (enc := encX) (k := 4) (fun _ => rfl) w4 [((a, d), (n, e)), ((u, t), (m, k))] #[.string ⟨a.toArray⟩, .int .i64 d, .string ⟨n.toArray⟩, .string ⟨e.toArray⟩, .string ⟨u.toArray⟩, .int .i64 t, .string ⟨m.toArray⟩, .string ⟨k.toArray⟩] 26 rfl
  have bn : Below w4.heap.size w4 (w4.alloc (.cells #[.string ⟨a.toArray⟩, .int .i64 d, .string ⟨n.toArray⟩, .string ⟨e.toArray⟩, .string ⟨u.toArray⟩, .int .i64 t, .string ⟨m.toArray⟩, .string ⟨k.toArray⟩] 26)) := Below.alloc (Below.refl _ _) (Nat.le_refl _) _
  obtain ⟨U5, hU⟩ : ∃ U, w4.alloc (.cells #[.string ⟨a.toArray⟩, .int .i64 d, .string ⟨n.toArray⟩, .string ⟨e.toArray⟩, .string ⟨u.toArray⟩, .int .i64 t, .string ⟨m.toArray⟩, .string ⟨k.toArray⟩] 26) = U := ⟨_, rfl⟩
  rw [hU] at hrow bn ⊢
  have bU := Below.more b4 bn
  replace rf0 := fun v (h : Below U5.heap.size U5 v) => rf0 v (Below.more bU h)
  replace rf1 := fun v (h : Below U5.heap.size U5 v) => rf1 v (Below.more bU h)
  replace rf2 := fun v (h : Below U5.heap.size U5 v) => rf2 v (Below.more bU h)
  replace rf3 := fun v (h : Below U5.heap.size U5 v) => rf3 v (Below.more bU h)
  replace rg0 := fun v (h : Below U5.heap.size U5 v) => rg0 v (Below.more bU h)
  replace rg1 := fun v (h : Below U5.heap.size U5 v) => rg1 v (Below.more bU h)
  replace rg2 := fun v (h : Below U5.heap.size U5 v) => rg2 v (Below.more bU h)
  replace rg3 := fun v (h : Below U5.heap.size U5 v) => rg3 v (Below.more bU h)
  replace BW := Below.more BW bU
  replace HT := Lib.hid (HT.out.below bU)
  have Lf := Lib.hid hrow
  clear hrow bU bn hU
  have b5 := Below.refl U5.heap.size U5
  refine (CS2.out _ _ (Lf.out.below b5)).mono ?_
  rintro e w6 ⟨rfl, b⟩
  have b6 := Below.more b5 b
  clear b
  go_wp2_with fail
  refine (CM.out _ (Below.more BW b6)).mono ?_
  rintro e w7 ⟨rfl, b⟩
  have b7 := Below.more b6 b
  clear b
  go_wp2_with fail
  refine (CO.out _).mono ?_
  rintro e w8 ⟨rfl, b⟩
  have b8 := Below.more b7 b
  clear b
  go_wp2_with fail
  refine (CO2.out _).mono ?_
  rintro e w9 ⟨rfl, b⟩
  have b9 := Below.more b8 b
  clear b
  go_wp2_with fail
  refine (C1.out _ (Below.more BW b9)).mono ?_
  rintro e w10 ⟨rfl, b⟩
  have b10 := Below.more b9 b
  clear b
  have ba := fun x => Below.alloc b10 (Below.size b10) x
  go_wp2_with fail
  obtain ⟨U11, hU, bU, s11, rp0, rp1⟩ := lay b10 (.string ⟨g1.toArray⟩) (.string ⟨g2.toArray⟩) 24
  rw [hU]; clear hU
  clear s11
  replace rf0 := fun v (h : Below U11.heap.size U11 v) => rf0 v (Below.more bU h)
  replace rf1 := fun v (h : Below U11.heap.size U11 v) => rf1 v (Below.more bU h)
  replace rf2 := fun v (h : Below U11.heap.size U11 v) => rf2 v (Below.more bU h)
  replace rf3 := fun v (h : Below U11.heap.size U11 v) => rf3 v (Below.more bU h)
  replace rg0 := fun v (h : Below U11.heap.size U11 v) => rg0 v (Below.more bU h)
  replace rg1 := fun v (h : Below U11.heap.size U11 v) => rg1 v (Below.more bU h)
  replace rg2 := fun v (h : Below U11.heap.size U11 v) => rg2 v (Below.more bU h)
  replace rg3 := fun v (h : Below U11.heap.size U11 v) => rg3 v (Below.more bU h)
  replace Lf := Lib.hid (Lf.out.below bU)
  replace BW := Below.more BW bU
  replace HT := Lib.hid (HT.out.below bU)
  clear bU
  have b11 := Below.refl U11.heap.size U11
  clear ba
  go_wp2_with fail
  refine (C2.out _ (Below.more BW b11)).mono ?_
  rintro e0 U12 ⟨⟨pa, ca, rfl, hca, hla⟩, b⟩
  have bU := Below.more b11 b
  clear b
  replace rf0 := fun v (h : Below U12.heap.size U12 v) => rf0 v (Below.more bU h)
  replace rf1 := fun v (h : Below U12.heap.size U12 v) => rf1 v (Below.more bU h)
  replace rf2 := fun v (h : Below U12.heap.size U12 v) => rf2 v (Below.more bU h)
  replace rf3 := fun v (h : Below U12.heap.size U12 v) => rf3 v (Below.more bU h)
  replace rg0 := fun v (h : Below U12.heap.size U12 v) => rg0 v (Below.more bU h)
  replace rg1 := fun v (h : Below U12.heap.size U12 v) => rg1 v (Below.more bU h)
  replace rg2 := fun v (h : Below U12.heap.size U12 v) => rg2 v (Below.more bU h)
  replace rg3 := fun v (h : Below U12.heap.size U12 v) => rg3 v (Below.more bU h)
  replace rp0 := fun v (h : Below U12.heap.size U12 v) => rp0 v (Below.more bU h)
  replace rp1 := fun v (h : Below U12.heap.size U12 v) => rp1 v (Below.more bU h)
  replace Lf := Lib.hid (Lf.out.below bU)
  replace BW := Below.more BW bU
  replace HT := Lib.hid (HT.out.below bU)
  have La := Lib.hid hla
  clear hla bU
  have b12 := Below.refl U12.heap.size U12
  go_wp2_with fail
  go_ret
  exact ⟨ret_bool (by first | rfl | simp), Below.more BW b12⟩
set_option maxRecDepth 100000 in
set_option maxHeartbeats 4000000 in
theorem sy12_yes (p : Option Addr) (c : Nat) (l : List Fx.Fix) (a : List UInt8) (d : Int) (n e u : List UInt8) (t : Int) (m k : List UInt8) (w : World) (hc : l.length ≤ c) (hl : l.length ≤ 60) (h : Fxs w p l) (A B C : List Fx.Fix) (hlen : A.length = l.length + 1)
    (CS : Hid (∀ V, Below w.heap.size w V → Calls Tryd.prog 7 #[.slice p l.length c] V (GiveB V true)))
    (CS2 : Hid (∀ V q, Fxs V q [((a, d), (n, e)), ((u, t), (m, k))] → Calls Tryd.prog 7 #[.slice q 2 2] V (GiveB V true)))
    (CM : Hid (∀ V, Below w.heap.size w V → Calls Tryd.prog 17 #[.slice p l.length c] V (GiveB V true)))
    (CO : Hid (∀ V, Calls Tryd.prog 18 #[.agg #[.string ⟨a.toArray⟩, .int .i64 d, .string ⟨n.toArray⟩, .string ⟨e.toArray⟩]] V (GiveB V true)))
    (CO2 : Hid (∀ V, Calls Tryd.prog 18 #[.agg #[.string ⟨u.toArray⟩, .int .i64 t, .string ⟨m.toArray⟩, .string ⟨k.toArray⟩]] V (GiveB V true)))
    (C1 : Hid (∀ V, Below w.heap.size w V → Calls Tryd.prog 11 #[.slice p l.length c, .string ⟨a.toArray⟩, .int .i64 d] V (GiveRB V (([], []), false))))
    (C2 : Hid (∀ V, Below w.heap.size w V → Calls Tryd.prog 9 #[.slice p l.length c, .agg #[.string ⟨a.toArray⟩, .int .i64 d, .string ⟨n.toArray⟩, .string ⟨e.toArray⟩]] V (GiveT2 V A true)))
    (C3 : Hid (∀ V q cq, A.length ≤ cq → Fxs V q A → Calls Tryd.prog 11 #[.slice q A.length cq, .string ⟨a.toArray⟩, .int .i64 d] V (GiveRB V ((n, e), true))))
    (CA : Hid (∀ V q cq, A.length ≤ cq → Fxs V q A → ∀ (j : Nat) (a n e : List UInt8) (d : Int), l[j]? = some ((a, d), (n, e)) → Calls Tryd.prog 11 #[.slice q A.length cq, .string ⟨a.toArray⟩, .int .i64 d] V (GiveRB V ((n, e), true))))
    (C4 : Hid (∀ V q cq, A.length ≤ cq → Fxs V q A → Calls Tryd.prog 9 #[.slice q A.length cq, .agg #[.string ⟨a.toArray⟩, .int .i64 d, .string ⟨n.toArray⟩, .string ⟨e.toArray⟩]] V (GiveT2 V [] false)))
    (C5 : Hid (∀ V q cq, A.length ≤ cq → Fxs V q A → Calls Tryd.prog 9 #[.slice q A.length cq, .agg #[.string ⟨u.toArray⟩, .int .i64 t, .string ⟨m.toArray⟩, .string ⟨k.toArray⟩]] V (GiveT2 V B true)))
    (C6 : Hid (∀ V, Below w.heap.size w V → Calls Tryd.prog 9 #[.slice p l.length c, .agg #[.string ⟨u.toArray⟩, .int .i64 t, .string ⟨m.toArray⟩, .string ⟨k.toArray⟩]] V (GiveT2 V C true)))
    (C7 : Hid (∀ V q cq, C.length ≤ cq → Fxs V q C → Calls Tryd.prog 9 #[.slice q C.length cq, .agg #[.string ⟨a.toArray⟩, .int .i64 d, .string ⟨n.toArray⟩, .string ⟨e.toArray⟩]] V (GiveT2 V B true)))
    (C8 : Hid (∀ V q cq, A.length ≤ cq → Fxs V q A → Calls Tryd.prog 16 #[.slice q A.length cq] V (GiveB V true)))
    (C9 : Hid (∀ V p c q b, Fxs V p B → Fxs V q B → Calls Tryd.prog 15 #[.slice p B.length c, .slice q B.length b] V (GiveB V true))) :
    Calls Tryd.prog 4 #[.slice p l.length c, .agg #[.string ⟨a.toArray⟩, .int .i64 d, .string ⟨n.toArray⟩, .string ⟨e.toArray⟩], .agg #[.string ⟨u.toArray⟩, .int .i64 t, .string ⟨m.toArray⟩, .string ⟨k.toArray⟩]] w (GiveB w true) := by
  have HLN := Lib.hid hlen; clear hlen
  have HT : Hid (NoB w) := Lib.hid (noB w)
  go_enter Tryd.func4, Tryd.ntmps4
  go_wp2_with fail
  have BW := Below.refl w.heap.size w
  have b0 : Below w.heap.size w w := Below.refl _ _
  obtain ⟨U1, hU, bU, s1, rf0, rf1, rf2, rf3⟩ := lay4 b0 (.string ⟨a.toArray⟩) (.int .i64 d) (.string ⟨n.toArray⟩) (.string ⟨e.toArray⟩) 26
  rw [hU]; clear hU
  replace BW := Below.more BW bU
  replace HT := Lib.hid (HT.out.below bU)
  clear bU
  have b1 := Below.refl U1.heap.size U1
  obtain ⟨U2, hU, bU, s2, rg0, rg1, rg2, rg3⟩ := lay4 b1 (.string ⟨u.toArray⟩) (.int .i64 t) (.string ⟨m.toArray⟩) (.string ⟨k.toArray⟩) 26
  rw [hU]; clear hU
  rw [← s1] at rg0 rg1 rg2 rg3
  clear s2
  replace rf0 := fun v (h : Below U2.heap.size U2 v) => rf0 v (Below.more bU h)
  replace rf1 := fun v (h : Below U2.heap.size U2 v) => rf1 v (Below.more bU h)
  replace rf2 := fun v (h : Below U2.heap.size U2 v) => rf2 v (Below.more bU h)
  replace rf3 := fun v (h : Below U2.heap.size U2 v) => rf3 v (Below.more bU h)
  replace BW := Below.more BW bU
  replace HT := Lib.hid (HT.out.below bU)
  clear bU
  have b2 := Below.refl U2.heap.size U2
  clear s1
  refine (fixed12_any _).mono ?_
  rintro e w3 ⟨rfl, b⟩
  have b3 := Below.more b2 b
  clear b
  go_wp2_with fail
  refine (CS.out _ (Below.more BW b3)).mono ?_
  rintro e w4 ⟨rfl, b⟩
  have b4 := Below.more b3 b
  clear b
  go_wp2_with fail
  have hrow := rowsLit (enc := encX) (k := 4) (fun _ => rfl) w4 [((a, d), (n, e)), ((u, t), (m, k))] #[.string ⟨a.toArray⟩, .int .i64 d, .string ⟨n.toArray⟩, .string ⟨e.toArray⟩, .string ⟨u.toArray⟩, .int .i64 t, .string ⟨m.toArray⟩, .string ⟨k.toArray⟩] 26 rfl
  have bn : Below w4.heap.size w4 (w4.alloc (.cells #[.string ⟨a.toArray⟩, .int .i64 d, .string ⟨n.toArray⟩, .string ⟨e.toArray⟩, .string ⟨u.toArray⟩, .int .i64 t, .string ⟨m.toArray⟩, .string ⟨k.toArray⟩] 26)) := Below.alloc (Below.refl _ _) (Nat.le_refl _) _
  obtain ⟨U5, hU⟩ : ∃ U, w4.alloc (.cells #[.string ⟨a.toArray⟩, .int .i64 d, .string ⟨n.toArray⟩, .string ⟨e.toArray⟩, .string ⟨u.toArray⟩, .int .i64 t, .string ⟨m.toArray⟩, .string ⟨k.toArray⟩] 26) = U := ⟨_, rfl⟩
  rw [hU] at hrow bn ⊢
  have bU := Below.more b4 bn
  replace rf0 := fun v (h : Below U5.heap.size U5 v) => rf0 v (Below.more bU h)
  replace rf1 := fun v (h : Below U5.heap.size U5 v) => rf1 v (Below.more bU h)
  replace rf2 := fun v (h : Below U5.heap.size U5 v) => rf2 v (Below.more bU h)
  replace rf3 := fun v (h : Below U5.heap.size U5 v) => rf3 v (Below.more bU h)
  replace rg0 := fun v (h : Below U5.heap.size U5 v) => rg0 v (Below.more bU h)
  replace rg1 := fun v (h : Below U5.heap.size U5 v) => rg1 v (Below.more bU h)
  replace rg2 := fun v (h : Below U5.heap.size U5 v) => rg2 v (Below.more bU h)
  replace rg3 := fun v (h : Below U5.heap.size U5 v) => rg3 v (Below.more bU h)
  replace BW := Below.more BW bU
  replace HT := Lib.hid (HT.out.below bU)
  have Lf := Lib.hid hrow
  clear hrow bU bn hU
  have b5 := Below.refl U5.heap.size U5
  refine (CS2.out _ _ (Lf.out.below b5)).mono ?_
  rintro e w6 ⟨rfl, b⟩
  have b6 := Below.more b5 b
  clear b
  go_wp2_with fail
  refine (CM.out _ (Below.more BW b6)).mono ?_
  rintro e w7 ⟨rfl, b⟩
  have b7 := Below.more b6 b
  clear b
  go_wp2_with fail
  refine (CO.out _).mono ?_
  rintro e w8 ⟨rfl, b⟩
  have b8 := Below.more b7 b
  clear b
  go_wp2_with fail
  refine (CO2.out _).mono ?_
  rintro e w9 ⟨rfl, b⟩
  have b9 := Below.more b8 b
  clear b
  go_wp2_with fail
  refine (C1.out _ (Below.more BW b9)).mono ?_
  rintro e w10 ⟨rfl, b⟩
  have b10 := Below.more b9 b
  clear b
  have ba := fun x => Below.alloc b10 (Below.size b10) x
  go_wp2_with fail
  obtain ⟨U11, hU, bU, s11, rp0, rp1⟩ := lay b10 (.string ⟨#[]⟩) (.string ⟨#[]⟩) 24
  rw [hU]; clear hU
  clear s11
  replace rf0 := fun v (h : Below U11.heap.size U11 v) => rf0 v (Below.more bU h)
  replace rf1 := fun v (h : Below U11.heap.size U11 v) => rf1 v (Below.more bU h)
  replace rf2 := fun v (h : Below U11.heap.size U11 v) => rf2 v (Below.more bU h)
  replace rf3 := fun v (h : Below U11.heap.size U11 v) => rf3 v (Below.more bU h)
  replace rg0 := fun v (h : Below U11.heap.size U11 v) => rg0 v (Below.more bU h)
  replace rg1 := fun v (h : Below U11.heap.size U11 v) => rg1 v (Below.more bU h)
  replace rg2 := fun v (h : Below U11.heap.size U11 v) => rg2 v (Below.more bU h)
  replace rg3 := fun v (h : Below U11.heap.size U11 v) => rg3 v (Below.more bU h)
  replace Lf := Lib.hid (Lf.out.below bU)
  replace BW := Below.more BW bU
  replace HT := Lib.hid (HT.out.below bU)
  clear bU
  have b11 := Below.refl U11.heap.size U11
  clear ba
  go_wp2_with fail
  refine (C2.out _ (Below.more BW b11)).mono ?_
  rintro e0 U12 ⟨⟨pa, ca, rfl, hca, hla⟩, b⟩
  have bU := Below.more b11 b
  clear b
  replace rf0 := fun v (h : Below U12.heap.size U12 v) => rf0 v (Below.more bU h)
  replace rf1 := fun v (h : Below U12.heap.size U12 v) => rf1 v (Below.more bU h)
  replace rf2 := fun v (h : Below U12.heap.size U12 v) => rf2 v (Below.more bU h)
  replace rf3 := fun v (h : Below U12.heap.size U12 v) => rf3 v (Below.more bU h)
  replace rg0 := fun v (h : Below U12.heap.size U12 v) => rg0 v (Below.more bU h)
  replace rg1 := fun v (h : Below U12.heap.size U12 v) => rg1 v (Below.more bU h)
  replace rg2 := fun v (h : Below U12.heap.size U12 v) => rg2 v (Below.more bU h)
  replace rg3 := fun v (h : Below U12.heap.size U12 v) => rg3 v (Below.more bU h)
  replace rp0 := fun v (h : Below U12.heap.size U12 v) => rp0 v (Below.more bU h)
  replace rp1 := fun v (h : Below U12.heap.size U12 v) => rp1 v (Below.more bU h)
  replace Lf := Lib.hid (Lf.out.below bU)
  replace BW := Below.more BW bU
  replace HT := Lib.hid (HT.out.below bU)
  have La := Lib.hid hla
  clear hla bU
  have b12 := Below.refl U12.heap.size U12
  go_wp2_with fail
  refine (C3.out _ _ _ hca (La.out.below b12)).mono ?_
  rintro e w13 ⟨rfl, b⟩
  have b13 := Below.more b12 b
  clear b
  have ba := fun x => Below.alloc b13 (Below.size b13) x
  go_wp2_with fail
  obtain ⟨U14, hU, bU, s14, rq0, rq1⟩ := lay b13 (.string ⟨n.toArray⟩) (.string ⟨e.toArray⟩) 24
  rw [hU]; clear hU
  clear s14
  replace rf0 := fun v (h : Below U14.heap.size U14 v) => rf0 v (Below.more bU h)
  replace rf1 := fun v (h : Below U14.heap.size U14 v) => rf1 v (Below.more bU h)
  replace rf2 := fun v (h : Below U14.heap.size U14 v) => rf2 v (Below.more bU h)
  replace rf3 := fun v (h : Below U14.heap.size U14 v) => rf3 v (Below.more bU h)
  replace rg0 := fun v (h : Below U14.heap.size U14 v) => rg0 v (Below.more bU h)
  replace rg1 := fun v (h : Below U14.heap.size U14 v) => rg1 v (Below.more bU h)
  replace rg2 := fun v (h : Below U14.heap.size U14 v) => rg2 v (Below.more bU h)
  replace rg3 := fun v (h : Below U14.heap.size U14 v) => rg3 v (Below.more bU h)
  replace rp0 := fun v (h : Below U14.heap.size U14 v) => rp0 v (Below.more bU h)
  replace rp1 := fun v (h : Below U14.heap.size U14 v) => rp1 v (Below.more bU h)
  replace Lf := Lib.hid (Lf.out.below bU)
  replace La := Lib.hid (La.out.below bU)
  replace BW := Below.more BW bU
  replace HT := Lib.hid (HT.out.below bU)
  clear bU
  have b14 := Below.refl U14.heap.size U14
  clear ba
  have HL := Lib.hid (h.below BW)
  have HCA := Lib.hid hca
  go_wp2_with fail
  go_loopw [13] (fun i wr => ∃ j : Nat, j ≤ l.length ∧ i = .int .i64 j ∧ Below U14.heap.size U14 wr) (fun i _ => l.length - (intOf i).toNat)
  case atStart => exact ⟨0, Nat.zero_le _, rfl, Below.refl _ _⟩
  case round =>
    obtain ⟨j, hj, rfl, hw⟩ := hrel
    by_cases hlt : j < l.length
    · obtain ⟨⟨⟨a', d'⟩, ⟨n', e'⟩⟩, hx⟩ : ∃ x, l[j]? = some x := ⟨_, List.getElem?_eq_getElem hlt⟩
      have ca := fun V (hV : Fxs V pa A) => CA.out V pa ca HCA.out hV j a' n' e' d' hx
      obtain ⟨b, o, rfl, k0, k1, k2, k3⟩ := fx_rule (HL.out.below hw) hx
      have CAj := Lib.hid fun V (hV : Below wr.heap.size wr V) => ca V ((La.out.below hw).below hV)
      have b0 := Below.refl wr.heap.size wr
      have hB := Lib.hid (Nat.le_refl wr.heap.size)
      have hlt2 : (j : Int) < (l.length : Int) := by omega
      have HWj := Lib.hid hw
      clear hx ca hw
      go_upto_region 13 with fail
      go_cut [14, 15] from 98 to 112 (fun t14 t15 wx => (∃ pp, t14 = .pointer (some ⟨pp, 0, none⟩) ∧ Zc pp (.string ⟨n'.toArray⟩) (.string ⟨e'.toArray⟩) wx) ∧ t15 = .bool true ∧ Below wr.heap.size wr wx)
      case first =>
        first | (go_region_held3 (fun w' => Below wr.heap.size wr w')
          (first | (exact b0.drew) | (with_reducible assumption) | (exact Below.alloc (by with_reducible assumption) (Nat.le_trans hB.out (Below.size (by with_reducible assumption))) _) | (exact put2 (by with_reducible assumption) (Nat.le_refl _) _ _) | (exact put2 (by with_reducible assumption) hB.out _ _) | (exact put2 (by with_reducible assumption) (Nat.le_trans hB.out (Below.size (by with_reducible assumption))) _ _))
          (first | (go_at_call 11; (with_reducible refine (held (W := wr) hB.out (CAj.out _ (by with_reducible assumption)) (by assumption)).mono ?_); rintro e w'' ⟨rfl, hb, hw⟩; (first | (have hz := zc_made0 hb) | (have hz := zc_made hb) | skip); (try have hz := Zc.below (by assumption) hb); (try (have z0 := hz.c0; have z1 := hz.c1; have z2 := hz.f0; have z3 := hz.f1))))) | fail
        all_goals (go_wp2_with fail)
        all_goals (go_meet)
        all_goals (exact ⟨⟨_, rfl, (by first | exact zc_new _ _ _ _ | exact zc_put (by assumption))⟩, rfl, by with_reducible assumption⟩)
      case rest =>
        obtain ⟨⟨pp, rfl, hz⟩, rfl, hcc⟩ := hcut
        have rz0 := fun v (h : Below wc.heap.size wc v) => (hz.below h).c0
        have rz1 := fun v (h : Below wc.heap.size wc v) => (hz.below h).c1
        replace k2 := fun v (h : Below wc.heap.size wc v) => k2 v (Below.more hcc h)
        replace k3 := fun v (h : Below wc.heap.size wc v) => k3 v (Below.more hcc h)
        have HWc := Lib.hid (Below.more HWj.out hcc)
        clear hz hcc hB b0 k0 k1
        have b0 := Below.refl wc.heap.size wc
        have hB := Lib.hid (Nat.le_refl wc.heap.size)
        go_wp2_with fail
        refine wp_region_noPanic ?_
        refine wp_region_held_drew (S := fun w' => Below wc.heap.size wc w') (by kernel_rfl) (b0.drew) (fun hH0 => ?_)
        refine wpAnyH_take (i := 0) (v := ?_) rfl (by kernel_rfl) (by kernel_rfl) (by kernel_rfl) (fun _ _ _ h => h) (Or.inl ⟨by rfl, ?_⟩) (by assumption) ?_
        rotate_left 1
        · (intro w hSw; (try dsimp only at hSw); go_simp <;> (with_reducible rfl))
        try simp only [Act.put, List.getElem_toArray, List.getElem_cons_succ, List.getElem_cons_zero, List.setIfInBounds_toArray, List.set_cons_zero, List.set_cons_succ]
        refine wpAnyH_take (i := 1) (v := ?_) rfl (by kernel_rfl) (by kernel_rfl) (by kernel_rfl) (fun _ _ _ h => h) (Or.inl ⟨by rfl, ?_⟩) (by assumption) ?_
        rotate_left 1
        · (intro w hSw; (try dsimp only at hSw); go_simp <;> (with_reducible rfl))
        try simp only [Act.put, List.getElem_toArray, List.getElem_cons_succ, List.getElem_cons_zero, List.setIfInBounds_toArray, List.set_cons_zero, List.set_cons_succ]
        refine wpAnyH_take (i := 2) (v := ?_) rfl (by kernel_rfl) (by kernel_rfl) (by kernel_rfl) (fun _ _ _ h => h) (Or.inl ⟨by rfl, ?_⟩) (by assumption) ?_
        rotate_left 1
        · (intro w hSw; (try dsimp only at hSw); go_simp <;> (with_reducible rfl))
        try simp only [Act.put, List.getElem_toArray, List.getElem_cons_succ, List.getElem_cons_zero, List.setIfInBounds_toArray, List.set_cons_zero, List.set_cons_succ]
        refine wpAnyH_take (i := 3) (v := ?_) rfl (by kernel_rfl) (by kernel_rfl) (by kernel_rfl) (fun _ _ _ h => h) (Or.inl ⟨by rfl, ?_⟩) (by assumption) ?_
        rotate_left 1
        · (intro w hSw; (try dsimp only at hSw); go_simp <;> (with_reducible rfl))
        try simp only [Act.put, List.getElem_toArray, List.getElem_cons_succ, List.getElem_cons_zero, List.setIfInBounds_toArray, List.set_cons_zero, List.set_cons_succ]
        refine wpAnyH_take (i := 4) (v := ?_) rfl (by kernel_rfl) (by kernel_rfl) (by kernel_rfl) (fun _ _ _ h => h) (Or.inl ⟨by rfl, ?_⟩) (by assumption) ?_
        rotate_left 1
        · (intro w hSw; (try dsimp only at hSw); go_simp <;> (with_reducible rfl))
        try simp only [Act.put, List.getElem_toArray, List.getElem_cons_succ, List.getElem_cons_zero, List.setIfInBounds_toArray, List.set_cons_zero, List.set_cons_succ]
        refine wpAnyH_take (i := 5) (v := ?_) rfl (by kernel_rfl) (by kernel_rfl) (by kernel_rfl) (fun _ _ _ h => h) (Or.inl ⟨by rfl, ?_⟩) (by assumption) ?_
        rotate_left 1
        · (intro w hSw; (try dsimp only at hSw); go_simp <;> (with_reducible rfl))
        try simp only [Act.put, List.getElem_toArray, List.getElem_cons_succ, List.getElem_cons_zero, List.setIfInBounds_toArray, List.set_cons_zero, List.set_cons_succ]
        refine wpAnyH_take (i := 6) (v := ?_) rfl (by kernel_rfl) (by kernel_rfl) (by kernel_rfl) (fun _ _ _ h => h) (Or.inl ⟨by rfl, ?_⟩) (by assumption) ?_
        rotate_left 1
        · (intro w hSw; (try dsimp only at hSw); go_simp <;> (with_reducible rfl))
        try simp only [Act.put, List.getElem_toArray, List.getElem_cons_succ, List.getElem_cons_zero, List.setIfInBounds_toArray, List.set_cons_zero, List.set_cons_succ]
        refine wpAnyH_take (i := 7) (v := ?_) rfl (by kernel_rfl) (by kernel_rfl) (by kernel_rfl) (fun _ _ _ h => h) (Or.inl ⟨by rfl, ?_⟩) (by assumption) ?_
        rotate_left 1
        · (intro w hSw; (try dsimp only at hSw); go_simp <;> (with_reducible rfl))
        try simp only [Act.put, List.getElem_toArray, List.getElem_cons_succ, List.getElem_cons_zero, List.setIfInBounds_toArray, List.set_cons_zero, List.set_cons_succ]
        refine wpAnyH_take (i := 8) (v := ?_) rfl (by kernel_rfl) (by kernel_rfl) (by kernel_rfl) (fun _ _ _ h => h) (Or.inl ⟨by rfl, ?_⟩) (by assumption) ?_
        rotate_left 1
        · (intro w hSw; (try dsimp only at hSw); go_simp <;> (with_reducible rfl))
        try simp only [Act.put, List.getElem_toArray, List.getElem_cons_succ, List.getElem_cons_zero, List.setIfInBounds_toArray, List.set_cons_zero, List.set_cons_succ]
        refine wpAnyH_take (i := 9) (v := ?_) rfl (by kernel_rfl) (by kernel_rfl) (by kernel_rfl) (fun _ _ _ h => h) (Or.inl ⟨by rfl, ?_⟩) (by assumption) ?_
        rotate_left 1
        · (intro w hSw; (try dsimp only at hSw); go_simp <;> (with_reducible rfl))
        try simp only [Act.put, List.getElem_toArray, List.getElem_cons_succ, List.getElem_cons_zero, List.setIfInBounds_toArray, List.set_cons_zero, List.set_cons_succ]
        refine wpAnyH_take (i := 10) (v := ?_) rfl (by kernel_rfl) (by kernel_rfl) (by kernel_rfl) (fun _ _ _ h => h) (Or.inl ⟨by rfl, ?_⟩) (by assumption) ?_
        rotate_left 1
        · (intro w hSw; (try dsimp only at hSw); go_simp <;> (with_reducible rfl))
        try simp only [Act.put, List.getElem_toArray, List.getElem_cons_succ, List.getElem_cons_zero, List.setIfInBounds_toArray, List.set_cons_zero, List.set_cons_succ]
        refine wpAnyH_done (by kernel_rfl) ?_ _
        refine NoPanic.normal ?_
        have b9 := hH0
        clear hH0
        go_wp2_with fail
        go_roundw
        case rel => exact ⟨j + 1, hlt, by go_num, Below.more HWc.out b9⟩
        case measure => simp [intOf]; omega
    · obtain rfl : j = l.length := by omega
      clear CA
      replace rf0 := fun v (h : Below wr.heap.size wr v) => rf0 v (Below.more hw h)
      replace rf1 := fun v (h : Below wr.heap.size wr v) => rf1 v (Below.more hw h)
      replace rf2 := fun v (h : Below wr.heap.size wr v) => rf2 v (Below.more hw h)
      replace rf3 := fun v (h : Below wr.heap.size wr v) => rf3 v (Below.more hw h)
      replace rg0 := fun v (h : Below wr.heap.size wr v) => rg0 v (Below.more hw h)
      replace rg1 := fun v (h : Below wr.heap.size wr v) => rg1 v (Below.more hw h)
      replace rg2 := fun v (h : Below wr.heap.size wr v) => rg2 v (Below.more hw h)
      replace rg3 := fun v (h : Below wr.heap.size wr v) => rg3 v (Below.more hw h)
      replace rp0 := fun v (h : Below wr.heap.size wr v) => rp0 v (Below.more hw h)
      replace rp1 := fun v (h : Below wr.heap.size wr v) => rp1 v (Below.more hw h)
      replace rq0 := fun v (h : Below wr.heap.size wr v) => rq0 v (Below.more hw h)
      replace rq1 := fun v (h : Below wr.heap.size wr v) => rq1 v (Below.more hw h)
      replace Lf := Lib.hid (Lf.out.below hw)
      replace La := Lib.hid (La.out.below hw)
      replace BW := Below.more BW hw
      replace HT := Lib.hid (HT.out.below hw)
      clear hw
      have b60 := Below.refl wr.heap.size wr
      go_wp2_with fail
      refine (C4.out _ _ _ hca (La.out.below b60)).mono ?_
      rintro e0 U61 ⟨⟨px, cx, rfl, hcx, hlx⟩, b⟩
      have bU := Below.more b60 b
      clear b
      replace rf0 := fun v (h : Below U61.heap.size U61 v) => rf0 v (Below.more bU h)
      replace rf1 := fun v (h : Below U61.heap.size U61 v) => rf1 v (Below.more bU h)
      replace rf2 := fun v (h : Below U61.heap.size U61 v) => rf2 v (Below.more bU h)
      replace rf3 := fun v (h : Below U61.heap.size U61 v) => rf3 v (Below.more bU h)
      replace rg0 := fun v (h : Below U61.heap.size U61 v) => rg0 v (Below.more bU h)
      replace rg1 := fun v (h : Below U61.heap.size U61 v) => rg1 v (Below.more bU h)
      replace rg2 := fun v (h : Below U61.heap.size U61 v) => rg2 v (Below.more bU h)
      replace rg3 := fun v (h : Below U61.heap.size U61 v) => rg3 v (Below.more bU h)
      replace rp0 := fun v (h : Below U61.heap.size U61 v) => rp0 v (Below.more bU h)
      replace rp1 := fun v (h : Below U61.heap.size U61 v) => rp1 v (Below.more bU h)
      replace rq0 := fun v (h : Below U61.heap.size U61 v) => rq0 v (Below.more bU h)
      replace rq1 := fun v (h : Below U61.heap.size U61 v) => rq1 v (Below.more bU h)
      replace Lf := Lib.hid (Lf.out.below bU)
      replace La := Lib.hid (La.out.below bU)
      replace BW := Below.more BW bU
      replace HT := Lib.hid (HT.out.below bU)
      have Lx := Lib.hid hlx
      clear hlx bU
      have b61 := Below.refl U61.heap.size U61
      go_wp2_with fail
      refine (C5.out _ _ _ hca (La.out.below b61)).mono ?_
      rintro e0 U62 ⟨⟨pb, cb, rfl, hcb, hlb⟩, b⟩
      have bU := Below.more b61 b
      clear b
      replace rf0 := fun v (h : Below U62.heap.size U62 v) => rf0 v (Below.more bU h)
      replace rf1 := fun v (h : Below U62.heap.size U62 v) => rf1 v (Below.more bU h)
      replace rf2 := fun v (h : Below U62.heap.size U62 v) => rf2 v (Below.more bU h)
      replace rf3 := fun v (h : Below U62.heap.size U62 v) => rf3 v (Below.more bU h)
      replace rg0 := fun v (h : Below U62.heap.size U62 v) => rg0 v (Below.more bU h)
      replace rg1 := fun v (h : Below U62.heap.size U62 v) => rg1 v (Below.more bU h)
      replace rg2 := fun v (h : Below U62.heap.size U62 v) => rg2 v (Below.more bU h)
      replace rg3 := fun v (h : Below U62.heap.size U62 v) => rg3 v (Below.more bU h)
      replace rp0 := fun v (h : Below U62.heap.size U62 v) => rp0 v (Below.more bU h)
      replace rp1 := fun v (h : Below U62.heap.size U62 v) => rp1 v (Below.more bU h)
      replace rq0 := fun v (h : Below U62.heap.size U62 v) => rq0 v (Below.more bU h)
      replace rq1 := fun v (h : Below U62.heap.size U62 v) => rq1 v (Below.more bU h)
      replace Lf := Lib.hid (Lf.out.below bU)
      replace La := Lib.hid (La.out.below bU)
      replace Lx := Lib.hid (Lx.out.below bU)
      replace BW := Below.more BW bU
      replace HT := Lib.hid (HT.out.below bU)
      have Lb := Lib.hid hlb
      clear hlb bU
      have b62 := Below.refl U62.heap.size U62
      go_wp2_with fail
      refine (C6.out _ (Below.more BW b62)).mono ?_
      rintro e0 U63 ⟨⟨pc, cc, rfl, hcc, hlc⟩, b⟩
      have bU := Below.more b62 b
      clear b
      replace rf0 := fun v (h : Below U63.heap.size U63 v) => rf0 v (Below.more bU h)
      replace rf1 := fun v (h : Below U63.heap.size U63 v) => rf1 v (Below.more bU h)
      replace rf2 := fun v (h : Below U63.heap.size U63 v) => rf2 v (Below.more bU h)
      replace rf3 := fun v (h : Below U63.heap.size U63 v) => rf3 v (Below.more bU h)
      replace rg0 := fun v (h : Below U63.heap.size U63 v) => rg0 v (Below.more bU h)
      replace rg1 := fun v (h : Below U63.heap.size U63 v) => rg1 v (Below.more bU h)
      replace rg2 := fun v (h : Below U63.heap.size U63 v) => rg2 v (Below.more bU h)
      replace rg3 := fun v (h : Below U63.heap.size U63 v) => rg3 v (Below.more bU h)
      replace rp0 := fun v (h : Below U63.heap.size U63 v) => rp0 v (Below.more bU h)
      replace rp1 := fun v (h : Below U63.heap.size U63 v) => rp1 v (Below.more bU h)
      replace rq0 := fun v (h : Below U63.heap.size U63 v) => rq0 v (Below.more bU h)
      replace rq1 := fun v (h : Below U63.heap.size U63 v) => rq1 v (Below.more bU h)
      replace Lf := Lib.hid (Lf.out.below bU)
      replace La := Lib.hid (La.out.below bU)
      replace Lx := Lib.hid (Lx.out.below bU)
      replace Lb := Lib.hid (Lb.out.below bU)
      replace BW := Below.more BW bU
      replace HT := Lib.hid (HT.out.below bU)
      have Lc := Lib.hid hlc
      clear hlc bU
      have b63 := Below.refl U63.heap.size U63
      go_wp2_with fail
      refine (C7.out _ _ _ hcc (Lc.out.below b63)).mono ?_
      rintro e0 U64 ⟨⟨pd, cd, rfl, hcd, hld⟩, b⟩
      have bU := Below.more b63 b
      clear b
      replace rf0 := fun v (h : Below U64.heap.size U64 v) => rf0 v (Below.more bU h)
      replace rf1 := fun v (h : Below U64.heap.size U64 v) => rf1 v (Below.more bU h)
      replace rf2 := fun v (h : Below U64.heap.size U64 v) => rf2 v (Below.more bU h)
      replace rf3 := fun v (h : Below U64.heap.size U64 v) => rf3 v (Below.more bU h)
      replace rg0 := fun v (h : Below U64.heap.size U64 v) => rg0 v (Below.more bU h)
      replace rg1 := fun v (h : Below U64.heap.size U64 v) => rg1 v (Below.more bU h)
      replace rg2 := fun v (h : Below U64.heap.size U64 v) => rg2 v (Below.more bU h)
      replace rg3 := fun v (h : Below U64.heap.size U64 v) => rg3 v (Below.more bU h)
      replace rp0 := fun v (h : Below U64.heap.size U64 v) => rp0 v (Below.more bU h)
      replace rp1 := fun v (h : Below U64.heap.size U64 v) => rp1 v (Below.more bU h)
      replace rq0 := fun v (h : Below U64.heap.size U64 v) => rq0 v (Below.more bU h)
      replace rq1 := fun v (h : Below U64.heap.size U64 v) => rq1 v (Below.more bU h)
      replace Lf := Lib.hid (Lf.out.below bU)
      replace La := Lib.hid (La.out.below bU)
      replace Lx := Lib.hid (Lx.out.below bU)
      replace Lb := Lib.hid (Lb.out.below bU)
      replace Lc := Lib.hid (Lc.out.below bU)
      replace BW := Below.more BW bU
      replace HT := Lib.hid (HT.out.below bU)
      have Ld := Lib.hid hld
      clear hld bU
      have b64 := Below.refl U64.heap.size U64
      have hlT : ((A.length : Int) = (l.length : Int) + 1) = True := eq_true (by have := HLN.out; omega)
      have hlW : IntKind.i64.wrap ((l.length : Int) + 1) = (l.length : Int) + 1 := IntWalk.i64_in _ (by omega)
      go_wp2_with fail
      refine (C8.out _ _ _ hca (La.out.below b64)).mono ?_
      rintro e w65 ⟨rfl, b⟩
      have b65 := Below.more b64 b
      clear b
      go_wp2_with fail
      refine (C9.out _ _ _ _ _ (Lb.out.below b65) (Ld.out.below b65)).mono ?_
      rintro e w66 ⟨rfl, b⟩
      have b66 := Below.more b65 b
      clear b
      go_wp2_with fail
      go_ret
      exact ⟨ret_bool (by simp; have := HLN.out; omega), Below.more BW b66⟩
set_option maxRecDepth 100000 in
set_option maxHeartbeats 4000000 in
theorem sy12_one (p : Option Addr) (c : Nat) (l : List Fx.Fix) (a : List UInt8) (d : Int) (n e u : List UInt8) (t : Int) (m k : List UInt8) (w : World) (hc : l.length ≤ c) (hl : l.length ≤ 60) (h : Fxs w p l) (A C D : List Fx.Fix) (y z : Bool) (hlen : A.length = l.length + 1)
    (CS : Hid (∀ V, Below w.heap.size w V → Calls Tryd.prog 7 #[.slice p l.length c] V (GiveB V true)))
    (CS2 : Hid (∀ V q, Fxs V q [((a, d), (n, e)), ((u, t), (m, k))] → Calls Tryd.prog 7 #[.slice q 2 2] V (GiveB V true)))
    (CM : Hid (∀ V, Below w.heap.size w V → Calls Tryd.prog 17 #[.slice p l.length c] V (GiveB V true)))
    (CO : Hid (∀ V, Calls Tryd.prog 18 #[.agg #[.string ⟨a.toArray⟩, .int .i64 d, .string ⟨n.toArray⟩, .string ⟨e.toArray⟩]] V (GiveB V true)))
    (CO2 : Hid (∀ V, Calls Tryd.prog 18 #[.agg #[.string ⟨u.toArray⟩, .int .i64 t, .string ⟨m.toArray⟩, .string ⟨k.toArray⟩]] V (GiveB V true)))
    (C1 : Hid (∀ V, Below w.heap.size w V → Calls Tryd.prog 11 #[.slice p l.length c, .string ⟨a.toArray⟩, .int .i64 d] V (GiveRB V (([], []), false))))
    (C2 : Hid (∀ V, Below w.heap.size w V → Calls Tryd.prog 9 #[.slice p l.length c, .agg #[.string ⟨a.toArray⟩, .int .i64 d, .string ⟨n.toArray⟩, .string ⟨e.toArray⟩]] V (GiveT2 V A true)))
    (C3 : Hid (∀ V q cq, A.length ≤ cq → Fxs V q A → Calls Tryd.prog 11 #[.slice q A.length cq, .string ⟨a.toArray⟩, .int .i64 d] V (GiveRB V ((n, e), true))))
    (CA : Hid (∀ V q cq, A.length ≤ cq → Fxs V q A → ∀ (j : Nat) (a n e : List UInt8) (d : Int), l[j]? = some ((a, d), (n, e)) → Calls Tryd.prog 11 #[.slice q A.length cq, .string ⟨a.toArray⟩, .int .i64 d] V (GiveRB V ((n, e), true))))
    (C4 : Hid (∀ V q cq, A.length ≤ cq → Fxs V q A → Calls Tryd.prog 9 #[.slice q A.length cq, .agg #[.string ⟨a.toArray⟩, .int .i64 d, .string ⟨n.toArray⟩, .string ⟨e.toArray⟩]] V (GiveT2 V [] false)))
    (C5 : Hid (∀ V q cq, A.length ≤ cq → Fxs V q A → Calls Tryd.prog 9 #[.slice q A.length cq, .agg #[.string ⟨u.toArray⟩, .int .i64 t, .string ⟨m.toArray⟩, .string ⟨k.toArray⟩]] V (GiveT2 V [] false)))
    (C6 : Hid (∀ V, Below w.heap.size w V → Calls Tryd.prog 9 #[.slice p l.length c, .agg #[.string ⟨u.toArray⟩, .int .i64 t, .string ⟨m.toArray⟩, .string ⟨k.toArray⟩]] V (GiveT2 V C y)))
    (C7 : Hid (∀ V q cq, C.length ≤ cq → Fxs V q C → Calls Tryd.prog 9 #[.slice q C.length cq, .agg #[.string ⟨a.toArray⟩, .int .i64 d, .string ⟨n.toArray⟩, .string ⟨e.toArray⟩]] V (GiveT2 V D z)))
    (C8 : Hid (∀ V q cq, A.length ≤ cq → Fxs V q A → Calls Tryd.prog 16 #[.slice q A.length cq] V (GiveB V true))) :
    Calls Tryd.prog 4 #[.slice p l.length c, .agg #[.string ⟨a.toArray⟩, .int .i64 d, .string ⟨n.toArray⟩, .string ⟨e.toArray⟩], .agg #[.string ⟨u.toArray⟩, .int .i64 t, .string ⟨m.toArray⟩, .string ⟨k.toArray⟩]] w (GiveB w true) := by
  have HLN := Lib.hid hlen; clear hlen
  have HT : Hid (NoB w) := Lib.hid (noB w)
  go_enter Tryd.func4, Tryd.ntmps4
  go_wp2_with fail
  have BW := Below.refl w.heap.size w
  have b0 : Below w.heap.size w w := Below.refl _ _
  obtain ⟨U1, hU, bU, s1, rf0, rf1, rf2, rf3⟩ := lay4 b0 (.string ⟨a.toArray⟩) (.int .i64 d) (.string ⟨n.toArray⟩) (.string ⟨e.toArray⟩) 26
  rw [hU]; clear hU
  replace BW := Below.more BW bU
  replace HT := Lib.hid (HT.out.below bU)
  clear bU
  have b1 := Below.refl U1.heap.size U1
  obtain ⟨U2, hU, bU, s2, rg0, rg1, rg2, rg3⟩ := lay4 b1 (.string ⟨u.toArray⟩) (.int .i64 t) (.string ⟨m.toArray⟩) (.string ⟨k.toArray⟩) 26
  rw [hU]; clear hU
  rw [← s1] at rg0 rg1 rg2 rg3
  clear s2
  replace rf0 := fun v (h : Below U2.heap.size U2 v) => rf0 v (Below.more bU h)
  replace rf1 := fun v (h : Below U2.heap.size U2 v) => rf1 v (Below.more bU h)
  replace rf2 := fun v (h : Below U2.heap.size U2 v) => rf2 v (Below.more bU h)
  replace rf3 := fun v (h : Below U2.heap.size U2 v) => rf3 v (Below.more bU h)
  replace BW := Below.more BW bU
  replace HT := Lib.hid (HT.out.below bU)
  clear bU
  have b2 := Below.refl U2.heap.size U2
  clear s1
  refine (fixed12_any _).mono ?_
  rintro e w3 ⟨rfl, b⟩
  have b3 := Below.more b2 b
  clear b
  go_wp2_with fail
  refine (CS.out _ (Below.more BW b3)).mono ?_
  rintro e w4 ⟨rfl, b⟩
  have b4 := Below.more b3 b
  clear b
  go_wp2_with fail
  have hrow := rowsLit (enc := encX) (k := 4) (fun _ => rfl) w4 [((a, d), (n, e)), ((u, t), (m, k))] #[.string ⟨a.toArray⟩, .int .i64 d, .string ⟨n.toArray⟩, .string ⟨e.toArray⟩, .string ⟨u.toArray⟩, .int .i64 t, .string ⟨m.toArray⟩, .string ⟨k.toArray⟩] 26 rfl
  have bn : Below w4.heap.size w4 (w4.alloc (.cells #[.string ⟨a.toArray⟩, .int .i64 d, .string ⟨n.toArray⟩, .string ⟨e.toArray⟩, .string ⟨u.toArray⟩, .int .i64 t, .string ⟨m.toArray⟩, .string ⟨k.toArray⟩] 26)) := Below.alloc (Below.refl _ _) (Nat.le_refl _) _
  obtain ⟨U5, hU⟩ : ∃ U, w4.alloc (.cells #[.string ⟨a.toArray⟩, .int .i64 d, .string ⟨n.toArray⟩, .string ⟨e.toArray⟩, .string ⟨u.toArray⟩, .int .i64 t, .string ⟨m.toArray⟩, .string ⟨k.toArray⟩] 26) = U := ⟨_, rfl⟩
  rw [hU] at hrow bn ⊢
  have bU := Below.more b4 bn
  replace rf0 := fun v (h : Below U5.heap.size U5 v) => rf0 v (Below.more bU h)
  replace rf1 := fun v (h : Below U5.heap.size U5 v) => rf1 v (Below.more bU h)
  replace rf2 := fun v (h : Below U5.heap.size U5 v) => rf2 v (Below.more bU h)
  replace rf3 := fun v (h : Below U5.heap.size U5 v) => rf3 v (Below.more bU h)
  replace rg0 := fun v (h : Below U5.heap.size U5 v) => rg0 v (Below.more bU h)
  replace rg1 := fun v (h : Below U5.heap.size U5 v) => rg1 v (Below.more bU h)
  replace rg2 := fun v (h : Below U5.heap.size U5 v) => rg2 v (Below.more bU h)
  replace rg3 := fun v (h : Below U5.heap.size U5 v) => rg3 v (Below.more bU h)
  replace BW := Below.more BW bU
  replace HT := Lib.hid (HT.out.below bU)
  have Lf := Lib.hid hrow
  clear hrow bU bn hU
  have b5 := Below.refl U5.heap.size U5
  refine (CS2.out _ _ (Lf.out.below b5)).mono ?_
  rintro e w6 ⟨rfl, b⟩
  have b6 := Below.more b5 b
  clear b
  go_wp2_with fail
  refine (CM.out _ (Below.more BW b6)).mono ?_
  rintro e w7 ⟨rfl, b⟩
  have b7 := Below.more b6 b
  clear b
  go_wp2_with fail
  refine (CO.out _).mono ?_
  rintro e w8 ⟨rfl, b⟩
  have b8 := Below.more b7 b
  clear b
  go_wp2_with fail
  refine (CO2.out _).mono ?_
  rintro e w9 ⟨rfl, b⟩
  have b9 := Below.more b8 b
  clear b
  go_wp2_with fail
  refine (C1.out _ (Below.more BW b9)).mono ?_
  rintro e w10 ⟨rfl, b⟩
  have b10 := Below.more b9 b
  clear b
  have ba := fun x => Below.alloc b10 (Below.size b10) x
  go_wp2_with fail
  obtain ⟨U11, hU, bU, s11, rp0, rp1⟩ := lay b10 (.string ⟨#[]⟩) (.string ⟨#[]⟩) 24
  rw [hU]; clear hU
  clear s11
  replace rf0 := fun v (h : Below U11.heap.size U11 v) => rf0 v (Below.more bU h)
  replace rf1 := fun v (h : Below U11.heap.size U11 v) => rf1 v (Below.more bU h)
  replace rf2 := fun v (h : Below U11.heap.size U11 v) => rf2 v (Below.more bU h)
  replace rf3 := fun v (h : Below U11.heap.size U11 v) => rf3 v (Below.more bU h)
  replace rg0 := fun v (h : Below U11.heap.size U11 v) => rg0 v (Below.more bU h)
  replace rg1 := fun v (h : Below U11.heap.size U11 v) => rg1 v (Below.more bU h)
  replace rg2 := fun v (h : Below U11.heap.size U11 v) => rg2 v (Below.more bU h)
  replace rg3 := fun v (h : Below U11.heap.size U11 v) => rg3 v (Below.more bU h)
  replace Lf := Lib.hid (Lf.out.below bU)
  replace BW := Below.more BW bU
  replace HT := Lib.hid (HT.out.below bU)
  clear bU
  have b11 := Below.refl U11.heap.size U11
  clear ba
  go_wp2_with fail
  refine (C2.out _ (Below.more BW b11)).mono ?_
  rintro e0 U12 ⟨⟨pa, ca, rfl, hca, hla⟩, b⟩
  have bU := Below.more b11 b
  clear b
  replace rf0 := fun v (h : Below U12.heap.size U12 v) => rf0 v (Below.more bU h)
  replace rf1 := fun v (h : Below U12.heap.size U12 v) => rf1 v (Below.more bU h)
  replace rf2 := fun v (h : Below U12.heap.size U12 v) => rf2 v (Below.more bU h)
  replace rf3 := fun v (h : Below U12.heap.size U12 v) => rf3 v (Below.more bU h)
  replace rg0 := fun v (h : Below U12.heap.size U12 v) => rg0 v (Below.more bU h)
  replace rg1 := fun v (h : Below U12.heap.size U12 v) => rg1 v (Below.more bU h)
  replace rg2 := fun v (h : Below U12.heap.size U12 v) => rg2 v (Below.more bU h)
  replace rg3 := fun v (h : Below U12.heap.size U12 v) => rg3 v (Below.more bU h)
  replace rp0 := fun v (h : Below U12.heap.size U12 v) => rp0 v (Below.more bU h)
  replace rp1 := fun v (h : Below U12.heap.size U12 v) => rp1 v (Below.more bU h)
  replace Lf := Lib.hid (Lf.out.below bU)
  replace BW := Below.more BW bU
  replace HT := Lib.hid (HT.out.below bU)
  have La := Lib.hid hla
  clear hla bU
  have b12 := Below.refl U12.heap.size U12
  go_wp2_with fail
  refine (C3.out _ _ _ hca (La.out.below b12)).mono ?_
  rintro e w13 ⟨rfl, b⟩
  have b13 := Below.more b12 b
  clear b
  have ba := fun x => Below.alloc b13 (Below.size b13) x
  go_wp2_with fail
  obtain ⟨U14, hU, bU, s14, rq0, rq1⟩ := lay b13 (.string ⟨n.toArray⟩) (.string ⟨e.toArray⟩) 24
  rw [hU]; clear hU
  clear s14
  replace rf0 := fun v (h : Below U14.heap.size U14 v) => rf0 v (Below.more bU h)
  replace rf1 := fun v (h : Below U14.heap.size U14 v) => rf1 v (Below.more bU h)
  replace rf2 := fun v (h : Below U14.heap.size U14 v) => rf2 v (Below.more bU h)
  replace rf3 := fun v (h : Below U14.heap.size U14 v) => rf3 v (Below.more bU h)
  replace rg0 := fun v (h : Below U14.heap.size U14 v) => rg0 v (Below.more bU h)
  replace rg1 := fun v (h : Below U14.heap.size U14 v) => rg1 v (Below.more bU h)
  replace rg2 := fun v (h : Below U14.heap.size U14 v) => rg2 v (Below.more bU h)
  replace rg3 := fun v (h : Below U14.heap.size U14 v) => rg3 v (Below.more bU h)
  replace rp0 := fun v (h : Below U14.heap.size U14 v) => rp0 v (Below.more bU h)
  replace rp1 := fun v (h : Below U14.heap.size U14 v) => rp1 v (Below.more bU h)
  replace Lf := Lib.hid (Lf.out.below bU)
  replace La := Lib.hid (La.out.below bU)
  replace BW := Below.more BW bU
  replace HT := Lib.hid (HT.out.below bU)
  clear bU
  have b14 := Below.refl U14.heap.size U14
  clear ba
  have HL := Lib.hid (h.below BW)
  have HCA := Lib.hid hca
  go_wp2_with fail
  go_loopw [13] (fun i wr => ∃ j : Nat, j ≤ l.length ∧ i = .int .i64 j ∧ Below U14.heap.size U14 wr) (fun i _ => l.length - (intOf i).toNat)
  case atStart => exact ⟨0, Nat.zero_le _, rfl, Below.refl _ _⟩
  case round =>
    obtain ⟨j, hj, rfl, hw⟩ := hrel
    by_cases hlt : j < l.length
    · obtain ⟨⟨⟨a', d'⟩, ⟨n', e'⟩⟩, hx⟩ : ∃ x, l[j]? = some x := ⟨_, List.getElem?_eq_getElem hlt⟩
      have ca := fun V (hV : Fxs V pa A) => CA.out V pa ca HCA.out hV j a' n' e' d' hx
      obtain ⟨b, o, rfl, k0, k1, k2, k3⟩ := fx_rule (HL.out.below hw) hx
      have CAj := Lib.hid fun V (hV : Below wr.heap.size wr V) => ca V ((La.out.below hw).below hV)
      have b0 := Below.refl wr.heap.size wr
      have hB := Lib.hid (Nat.le_refl wr.heap.size)
      have hlt2 : (j : Int) < (l.length : Int) := by omega
      have HWj := Lib.hid hw
      clear hx ca hw
      go_upto_region 13 with fail
      go_cut [14, 15] from 98 to 112 (fun t14 t15 wx => (∃ pp, t14 = .pointer (some ⟨pp, 0, none⟩) ∧ Zc pp (.string ⟨n'.toArray⟩) (.string ⟨e'.toArray⟩) wx) ∧ t15 = .bool true ∧ Below wr.heap.size wr wx)
      case first =>
        first | (go_region_held3 (fun w' => Below wr.heap.size wr w')
          (first | (exact b0.drew) | (with_reducible assumption) | (exact Below.alloc (by with_reducible assumption) (Nat.le_trans hB.out (Below.size (by with_reducible assumption))) _) | (exact put2 (by with_reducible assumption) (Nat.le_refl _) _ _) | (exact put2 (by with_reducible assumption) hB.out _ _) | (exact put2 (by with_reducible assumption) (Nat.le_trans hB.out (Below.size (by with_reducible assumption))) _ _))
          (first | (go_at_call 11; (with_reducible refine (held (W := wr) hB.out (CAj.out _ (by with_reducible assumption)) (by assumption)).mono ?_); rintro e w'' ⟨rfl, hb, hw⟩; (first | (have hz := zc_made0 hb) | (have hz := zc_made hb) | skip); (try have hz := Zc.below (by assumption) hb); (try (have z0 := hz.c0; have z1 := hz.c1; have z2 := hz.f0; have z3 := hz.f1))))) | fail
        all_goals (go_wp2_with fail)
        all_goals (go_meet)
        all_goals (exact ⟨⟨_, rfl, (by first | exact zc_new _ _ _ _ | exact zc_put (by assumption))⟩, rfl, by with_reducible assumption⟩)
      case rest =>
        obtain ⟨⟨pp, rfl, hz⟩, rfl, hcc⟩ := hcut
        have rz0 := fun v (h : Below wc.heap.size wc v) => (hz.below h).c0
        have rz1 := fun v (h : Below wc.heap.size wc v) => (hz.below h).c1
        replace k2 := fun v (h : Below wc.heap.size wc v) => k2 v (Below.more hcc h)
        replace k3 := fun v (h : Below wc.heap.size wc v) => k3 v (Below.more hcc h)
        have HWc := Lib.hid (Below.more HWj.out hcc)
        clear hz hcc hB b0 k0 k1
        have b0 := Below.refl wc.heap.size wc
        have hB := Lib.hid (Nat.le_refl wc.heap.size)
        go_wp2_with fail
        refine wp_region_noPanic ?_
        refine wp_region_held_drew (S := fun w' => Below wc.heap.size wc w') (by kernel_rfl) (b0.drew) (fun hH0 => ?_)
        refine wpAnyH_take (i := 0) (v := ?_) rfl (by kernel_rfl) (by kernel_rfl) (by kernel_rfl) (fun _ _ _ h => h) (Or.inl ⟨by rfl, ?_⟩) (by assumption) ?_
        rotate_left 1
        · (intro w hSw; (try dsimp only at hSw); go_simp <;> (with_reducible rfl))
        try simp only [Act.put, List.getElem_toArray, List.getElem_cons_succ, List.getElem_cons_zero, List.setIfInBounds_toArray, List.set_cons_zero, List.set_cons_succ]
        refine wpAnyH_take (i := 1) (v := ?_) rfl (by kernel_rfl) (by kernel_rfl) (by kernel_rfl) (fun _ _ _ h => h) (Or.inl ⟨by rfl, ?_⟩) (by assumption) ?_
        rotate_left 1
        · (intro w hSw; (try dsimp only at hSw); go_simp <;> (with_reducible rfl))
        try simp only [Act.put, List.getElem_toArray, List.getElem_cons_succ, List.getElem_cons_zero, List.setIfInBounds_toArray, List.set_cons_zero, List.set_cons_succ]
        refine wpAnyH_take (i := 2) (v := ?_) rfl (by kernel_rfl) (by kernel_rfl) (by kernel_rfl) (fun _ _ _ h => h) (Or.inl ⟨by rfl, ?_⟩) (by assumption) ?_
        rotate_left 1
        · (intro w hSw; (try dsimp only at hSw); go_simp <;> (with_reducible rfl))
        try simp only [Act.put, List.getElem_toArray, List.getElem_cons_succ, List.getElem_cons_zero, List.setIfInBounds_toArray, List.set_cons_zero, List.set_cons_succ]
        refine wpAnyH_take (i := 3) (v := ?_) rfl (by kernel_rfl) (by kernel_rfl) (by kernel_rfl) (fun _ _ _ h => h) (Or.inl ⟨by rfl, ?_⟩) (by assumption) ?_
        rotate_left 1
        · (intro w hSw; (try dsimp only at hSw); go_simp <;> (with_reducible rfl))
        try simp only [Act.put, List.getElem_toArray, List.getElem_cons_succ, List.getElem_cons_zero, List.setIfInBounds_toArray, List.set_cons_zero, List.set_cons_succ]
        refine wpAnyH_take (i := 4) (v := ?_) rfl (by kernel_rfl) (by kernel_rfl) (by kernel_rfl) (fun _ _ _ h => h) (Or.inl ⟨by rfl, ?_⟩) (by assumption) ?_
        rotate_left 1
        · (intro w hSw; (try dsimp only at hSw); go_simp <;> (with_reducible rfl))
        try simp only [Act.put, List.getElem_toArray, List.getElem_cons_succ, List.getElem_cons_zero, List.setIfInBounds_toArray, List.set_cons_zero, List.set_cons_succ]
        refine wpAnyH_take (i := 5) (v := ?_) rfl (by kernel_rfl) (by kernel_rfl) (by kernel_rfl) (fun _ _ _ h => h) (Or.inl ⟨by rfl, ?_⟩) (by assumption) ?_
        rotate_left 1
        · (intro w hSw; (try dsimp only at hSw); go_simp <;> (with_reducible rfl))
        try simp only [Act.put, List.getElem_toArray, List.getElem_cons_succ, List.getElem_cons_zero, List.setIfInBounds_toArray, List.set_cons_zero, List.set_cons_succ]
        refine wpAnyH_take (i := 6) (v := ?_) rfl (by kernel_rfl) (by kernel_rfl) (by kernel_rfl) (fun _ _ _ h => h) (Or.inl ⟨by rfl, ?_⟩) (by assumption) ?_
        rotate_left 1
        · (intro w hSw; (try dsimp only at hSw); go_simp <;> (with_reducible rfl))
        try simp only [Act.put, List.getElem_toArray, List.getElem_cons_succ, List.getElem_cons_zero, List.setIfInBounds_toArray, List.set_cons_zero, List.set_cons_succ]
        refine wpAnyH_take (i := 7) (v := ?_) rfl (by kernel_rfl) (by kernel_rfl) (by kernel_rfl) (fun _ _ _ h => h) (Or.inl ⟨by rfl, ?_⟩) (by assumption) ?_
        rotate_left 1
        · (intro w hSw; (try dsimp only at hSw); go_simp <;> (with_reducible rfl))
        try simp only [Act.put, List.getElem_toArray, List.getElem_cons_succ, List.getElem_cons_zero, List.setIfInBounds_toArray, List.set_cons_zero, List.set_cons_succ]
        refine wpAnyH_take (i := 8) (v := ?_) rfl (by kernel_rfl) (by kernel_rfl) (by kernel_rfl) (fun _ _ _ h => h) (Or.inl ⟨by rfl, ?_⟩) (by assumption) ?_
        rotate_left 1
        · (intro w hSw; (try dsimp only at hSw); go_simp <;> (with_reducible rfl))
        try simp only [Act.put, List.getElem_toArray, List.getElem_cons_succ, List.getElem_cons_zero, List.setIfInBounds_toArray, List.set_cons_zero, List.set_cons_succ]
        refine wpAnyH_take (i := 9) (v := ?_) rfl (by kernel_rfl) (by kernel_rfl) (by kernel_rfl) (fun _ _ _ h => h) (Or.inl ⟨by rfl, ?_⟩) (by assumption) ?_
        rotate_left 1
        · (intro w hSw; (try dsimp only at hSw); go_simp <;> (with_reducible rfl))
        try simp only [Act.put, List.getElem_toArray, List.getElem_cons_succ, List.getElem_cons_zero, List.setIfInBounds_toArray, List.set_cons_zero, List.set_cons_succ]
        refine wpAnyH_take (i := 10) (v := ?_) rfl (by kernel_rfl) (by kernel_rfl) (by kernel_rfl) (fun _ _ _ h => h) (Or.inl ⟨by rfl, ?_⟩) (by assumption) ?_
        rotate_left 1
        · (intro w hSw; (try dsimp only at hSw); go_simp <;> (with_reducible rfl))
        try simp only [Act.put, List.getElem_toArray, List.getElem_cons_succ, List.getElem_cons_zero, List.setIfInBounds_toArray, List.set_cons_zero, List.set_cons_succ]
        refine wpAnyH_done (by kernel_rfl) ?_ _
        refine NoPanic.normal ?_
        have b9 := hH0
        clear hH0
        go_wp2_with fail
        go_roundw
        case rel => exact ⟨j + 1, hlt, by go_num, Below.more HWc.out b9⟩
        case measure => simp [intOf]; omega
    · obtain rfl : j = l.length := by omega
      clear CA
      replace rf0 := fun v (h : Below wr.heap.size wr v) => rf0 v (Below.more hw h)
      replace rf1 := fun v (h : Below wr.heap.size wr v) => rf1 v (Below.more hw h)
      replace rf2 := fun v (h : Below wr.heap.size wr v) => rf2 v (Below.more hw h)
      replace rf3 := fun v (h : Below wr.heap.size wr v) => rf3 v (Below.more hw h)
      replace rg0 := fun v (h : Below wr.heap.size wr v) => rg0 v (Below.more hw h)
      replace rg1 := fun v (h : Below wr.heap.size wr v) => rg1 v (Below.more hw h)
      replace rg2 := fun v (h : Below wr.heap.size wr v) => rg2 v (Below.more hw h)
      replace rg3 := fun v (h : Below wr.heap.size wr v) => rg3 v (Below.more hw h)
      replace rp0 := fun v (h : Below wr.heap.size wr v) => rp0 v (Below.more hw h)
      replace rp1 := fun v (h : Below wr.heap.size wr v) => rp1 v (Below.more hw h)
      replace rq0 := fun v (h : Below wr.heap.size wr v) => rq0 v (Below.more hw h)
      replace rq1 := fun v (h : Below wr.heap.size wr v) => rq1 v (Below.more hw h)
      replace Lf := Lib.hid (Lf.out.below hw)
      replace La := Lib.hid (La.out.below hw)
      replace BW := Below.more BW hw
      replace HT := Lib.hid (HT.out.below hw)
      clear hw
      have b60 := Below.refl wr.heap.size wr
      go_wp2_with fail
      refine (C4.out _ _ _ hca (La.out.below b60)).mono ?_
      rintro e0 U61 ⟨⟨px, cx, rfl, hcx, hlx⟩, b⟩
      have bU := Below.more b60 b
      clear b
      replace rf0 := fun v (h : Below U61.heap.size U61 v) => rf0 v (Below.more bU h)
      replace rf1 := fun v (h : Below U61.heap.size U61 v) => rf1 v (Below.more bU h)
      replace rf2 := fun v (h : Below U61.heap.size U61 v) => rf2 v (Below.more bU h)
      replace rf3 := fun v (h : Below U61.heap.size U61 v) => rf3 v (Below.more bU h)
      replace rg0 := fun v (h : Below U61.heap.size U61 v) => rg0 v (Below.more bU h)
      replace rg1 := fun v (h : Below U61.heap.size U61 v) => rg1 v (Below.more bU h)
      replace rg2 := fun v (h : Below U61.heap.size U61 v) => rg2 v (Below.more bU h)
      replace rg3 := fun v (h : Below U61.heap.size U61 v) => rg3 v (Below.more bU h)
      replace rp0 := fun v (h : Below U61.heap.size U61 v) => rp0 v (Below.more bU h)
      replace rp1 := fun v (h : Below U61.heap.size U61 v) => rp1 v (Below.more bU h)
      replace rq0 := fun v (h : Below U61.heap.size U61 v) => rq0 v (Below.more bU h)
      replace rq1 := fun v (h : Below U61.heap.size U61 v) => rq1 v (Below.more bU h)
      replace Lf := Lib.hid (Lf.out.below bU)
      replace La := Lib.hid (La.out.below bU)
      replace BW := Below.more BW bU
      replace HT := Lib.hid (HT.out.below bU)
      have Lx := Lib.hid hlx
      clear hlx bU
      have b61 := Below.refl U61.heap.size U61
      go_wp2_with fail
      refine (C5.out _ _ _ hca (La.out.below b61)).mono ?_
      rintro e0 U62 ⟨⟨pb, cb, rfl, hcb, hlb⟩, b⟩
      have bU := Below.more b61 b
      clear b
      replace rf0 := fun v (h : Below U62.heap.size U62 v) => rf0 v (Below.more bU h)
      replace rf1 := fun v (h : Below U62.heap.size U62 v) => rf1 v (Below.more bU h)
      replace rf2 := fun v (h : Below U62.heap.size U62 v) => rf2 v (Below.more bU h)
      replace rf3 := fun v (h : Below U62.heap.size U62 v) => rf3 v (Below.more bU h)
      replace rg0 := fun v (h : Below U62.heap.size U62 v) => rg0 v (Below.more bU h)
      replace rg1 := fun v (h : Below U62.heap.size U62 v) => rg1 v (Below.more bU h)
      replace rg2 := fun v (h : Below U62.heap.size U62 v) => rg2 v (Below.more bU h)
      replace rg3 := fun v (h : Below U62.heap.size U62 v) => rg3 v (Below.more bU h)
      replace rp0 := fun v (h : Below U62.heap.size U62 v) => rp0 v (Below.more bU h)
      replace rp1 := fun v (h : Below U62.heap.size U62 v) => rp1 v (Below.more bU h)
      replace rq0 := fun v (h : Below U62.heap.size U62 v) => rq0 v (Below.more bU h)
      replace rq1 := fun v (h : Below U62.heap.size U62 v) => rq1 v (Below.more bU h)
      replace Lf := Lib.hid (Lf.out.below bU)
      replace La := Lib.hid (La.out.below bU)
      replace Lx := Lib.hid (Lx.out.below bU)
      replace BW := Below.more BW bU
      replace HT := Lib.hid (HT.out.below bU)
      have Lb := Lib.hid hlb
      clear hlb bU
      have b62 := Below.refl U62.heap.size U62
      go_wp2_with fail
      refine (C6.out _ (Below.more BW b62)).mono ?_
      rintro e0 U63 ⟨⟨pc, cc, rfl, hcc, hlc⟩, b⟩
      have bU := Below.more b62 b
      clear b
      replace rf0 := fun v (h : Below U63.heap.size U63 v) => rf0 v (Below.more bU h)
      replace rf1 := fun v (h : Below U63.heap.size U63 v) => rf1 v (Below.more bU h)
      replace rf2 := fun v (h : Below U63.heap.size U63 v) => rf2 v (Below.more bU h)
      replace rf3 := fun v (h : Below U63.heap.size U63 v) => rf3 v (Below.more bU h)
      replace rg0 := fun v (h : Below U63.heap.size U63 v) => rg0 v (Below.more bU h)
      replace rg1 := fun v (h : Below U63.heap.size U63 v) => rg1 v (Below.more bU h)
      replace rg2 := fun v (h : Below U63.heap.size U63 v) => rg2 v (Below.more bU h)
      replace rg3 := fun v (h : Below U63.heap.size U63 v) => rg3 v (Below.more bU h)
      replace rp0 := fun v (h : Below U63.heap.size U63 v) => rp0 v (Below.more bU h)
      replace rp1 := fun v (h : Below U63.heap.size U63 v) => rp1 v (Below.more bU h)
      replace rq0 := fun v (h : Below U63.heap.size U63 v) => rq0 v (Below.more bU h)
      replace rq1 := fun v (h : Below U63.heap.size U63 v) => rq1 v (Below.more bU h)
      replace Lf := Lib.hid (Lf.out.below bU)
      replace La := Lib.hid (La.out.below bU)
      replace Lx := Lib.hid (Lx.out.below bU)
      replace Lb := Lib.hid (Lb.out.below bU)
      replace BW := Below.more BW bU
      replace HT := Lib.hid (HT.out.below bU)
      have Lc := Lib.hid hlc
      clear hlc bU
      have b63 := Below.refl U63.heap.size U63
      go_wp2_with fail
      refine (C7.out _ _ _ hcc (Lc.out.below b63)).mono ?_
      rintro e0 U64 ⟨⟨pd, cd, rfl, hcd, hld⟩, b⟩
      have bU := Below.more b63 b
      clear b
      replace rf0 := fun v (h : Below U64.heap.size U64 v) => rf0 v (Below.more bU h)
      replace rf1 := fun v (h : Below U64.heap.size U64 v) => rf1 v (Below.more bU h)
      replace rf2 := fun v (h : Below U64.heap.size U64 v) => rf2 v (Below.more bU h)
      replace rf3 := fun v (h : Below U64.heap.size U64 v) => rf3 v (Below.more bU h)
      replace rg0 := fun v (h : Below U64.heap.size U64 v) => rg0 v (Below.more bU h)
      replace rg1 := fun v (h : Below U64.heap.size U64 v) => rg1 v (Below.more bU h)
      replace rg2 := fun v (h : Below U64.heap.size U64 v) => rg2 v (Below.more bU h)
      replace rg3 := fun v (h : Below U64.heap.size U64 v) => rg3 v (Below.more bU h)
      replace rp0 := fun v (h : Below U64.heap.size U64 v) => rp0 v (Below.more bU h)
      replace rp1 := fun v (h : Below U64.heap.size U64 v) => rp1 v (Below.more bU h)
      replace rq0 := fun v (h : Below U64.heap.size U64 v) => rq0 v (Below.more bU h)
      replace rq1 := fun v (h : Below U64.heap.size U64 v) => rq1 v (Below.more bU h)
      replace Lf := Lib.hid (Lf.out.below bU)
      replace La := Lib.hid (La.out.below bU)
      replace Lx := Lib.hid (Lx.out.below bU)
      replace Lb := Lib.hid (Lb.out.below bU)
      replace Lc := Lib.hid (Lc.out.below bU)
      replace BW := Below.more BW bU
      replace HT := Lib.hid (HT.out.below bU)
      have Ld := Lib.hid hld
      clear hld bU
      have b64 := Below.refl U64.heap.size U64
      have hlT : ((A.length : Int) = (l.length : Int) + 1) = True := eq_true (by have := HLN.out; omega)
      have hlW : IntKind.i64.wrap ((l.length : Int) + 1) = (l.length : Int) + 1 := IntWalk.i64_in _ (by omega)
      go_wp2_with fail
      refine (C8.out _ _ _ hca (La.out.below b64)).mono ?_
      rintro e w65 ⟨rfl, b⟩
      have b65 := Below.more b64 b
      clear b
      go_wp2_with fail
      go_ret
      exact ⟨ret_bool (by simp; have := HLN.out; omega), Below.more BW b65⟩
theorem stays12_any (p : Option Addr) (c : Nat) (l : List Fx.Fix) (a : List UInt8) (d : Int) (n e u : List UInt8) (t : Int) (m k : List UInt8) (w : World) (hc : l.length ≤ c) (hl : l.length ≤ 4611686018427387904) (h : Fxs w p l) :
    Calls Tryd.prog 4 #[.slice p l.length c, .agg #[.string ⟨a.toArray⟩, .int .i64 d, .string ⟨n.toArray⟩, .string ⟨e.toArray⟩], .agg #[.string ⟨u.toArray⟩, .int .i64 t, .string ⟨m.toArray⟩, .string ⟨k.toArray⟩]] w (GiveB w true) := by
  have cs := fun V (hV : Below w.heap.size w V) => rfsmall_any p c l V hc hl (h.below hV)
  cases h1 : smallX l with
  | false => rw [h1] at cs; exact sy12_1 p c l a d n e u t m k w (Lib.hid cs)
  | true =>
  rw [h1] at cs
  have cs2 := fun V q (hq : Fxs V q [((a, d), (n, e)), ((u, t), (m, k))]) => rfsmall_any q 2 [((a, d), (n, e)), ((u, t), (m, k))] V (Nat.le_refl _) (show 2 ≤ 4611686018427387904 by decide) hq
  cases h2 : smallX [((a, d), (n, e)), ((u, t), (m, k))] with
  | false => rw [h2] at cs2; exact sy12_2 p c l a d n e u t m k w (Lib.hid cs) (Lib.hid cs2)
  | true =>
  rw [h2] at cs2
  have hz := small_szX h1
  have h60 := (smallX_iff.1 h1).2
  have hf := small_szX h2 ((a, d), (n, e)) (by simp)
  have hg := small_szX h2 ((u, t), (m, k)) (by simp)
  have cm := fun V (hV : Below w.heap.size w V) => rfmay_any p c l V hc hl hz (h.below hV)
  cases h3 : Fx.mayF l with
  | false => rw [h3] at cm; exact sy12_3 p c l a d n e u t m k w (Lib.hid cs) (Lib.hid cs2) (Lib.hid cm)
  | true =>
  rw [h3] at cm
  have co := fun V => rfone_any a d n e V hf
  cases h4 : Fx.okF ((a, d), (n, e)) with
  | false => rw [h4] at co; exact sy12_4 p c l a d n e u t m k w (Lib.hid cs) (Lib.hid cs2) (Lib.hid cm) (Lib.hid co)
  | true =>
  rw [h4] at co
  have co2 := fun V => rfone_any u t m k V hg
  cases h5 : Fx.okF ((u, t), (m, k)) with
  | false => rw [h5] at co2; exact sy12_5 p c l a d n e u t m k w (Lib.hid cs) (Lib.hid cs2) (Lib.hid cm) (Lib.hid co) (Lib.hid co2)
  | true =>
  rw [h5] at co2
  have gl := Fx.good_iffF.1 h3
  have c1 := fun V (hV : Below w.heap.size w V) => ffget_any p c l a d V hc (by omega) hz (h.below hV)
  have c2 := fun V (hV : Below w.heap.size w V) => ffset_any p c l a d n e V hc (by omega) hz hf (h.below hV)
  have hi := Fx.set_isSome gl h4
  cases hs : Fx.setF l ((a, d), (n, e)) with
  | none =>
    rw [hs] at c2 hi
    cases hgt : Fx.getF l (a, d) with
    | none => rw [show Fx.getF l ((a, d), (n, e)).1 = none from hgt] at hi; cases hi
    | some q =>
      rw [hgt] at c1
      exact sy12_no p c l a d n e u t m k w q.1 q.2 (Lib.hid cs) (Lib.hid cs2) (Lib.hid cm) (Lib.hid co) (Lib.hid co2) (Lib.hid c1) (Lib.hid c2)
  | some A =>
    rw [hs] at c2 hi
    cases hgt : Fx.getF l (a, d) with
    | some q => rw [show Fx.getF l ((a, d), (n, e)).1 = some q from hgt] at hi; cases hi
    | none =>
      rw [hgt] at c1
      obtain ⟨eA, _, gA, _, nF⟩ := Fx.set_some hs
      have hA : ∀ x ∈ A, SzX x := by rw [eA]; exact sz_ins hz hf
      have lA : A.length = l.length + 1 := by rw [eA]; exact Fx.ins_len _ _
      have mf : ((a, d), (n, e)) ∈ A := by rw [eA]; exact Fx.ins_mem.2 (.inl rfl)
      have c3 := fun V q cq (hq : A.length ≤ cq) (hV : Fxs V q A) => ffget_any q cq A a d V hq (by omega) hA hV
      rw [show Fx.getF A (a, d) = some (n, e) from Fx.get_in gA mf] at c3
      have c4 := fun V q cq (hq : A.length ≤ cq) (hV : Fxs V q A) => ffset_any q cq A a d n e V hq (by omega) hA hf hV
      rw [Fx.set_has ⟨_, mf, rfl⟩] at c4
      have c5 := fun V q cq (hq : A.length ≤ cq) (hV : Fxs V q A) => ffset_any q cq A u t m k V hq (by omega) hA hg hV
      have c6 := fun V (hV : Below w.heap.size w V) => ffset_any p c l u t m k V hc (by omega) hz hg (h.below hV)
      have c8 := fun V q cq (hq : A.length ≤ cq) (hV : Fxs V q A) => ffmay_any q cq A V hq (by omega) hA hV
      rw [Fx.good_iffF.2 gA] at c8
      have ca : ∀ V q cq, A.length ≤ cq → Fxs V q A → ∀ (j : Nat) (a n e : List UInt8) (d : Int), l[j]? = some ((a, d), (n, e)) → Calls Tryd.prog 11 #[.slice q A.length cq, .string ⟨a.toArray⟩, .int .i64 d] V (GiveRB V ((n, e), true)) := fun V q cq hq hV j a n e d hx => by
        have k := ffget_any q cq A a d V hq (by omega) hA hV
        rw [show Fx.getF A (a, d) = some (n, e) from Fx.get_in gA (by rw [eA]; exact Fx.ins_mem.2 (.inr (List.mem_of_getElem? hx)))] at k
        exact k
      cases hb : Fx.setF A ((u, t), (m, k)) with
      | some B =>
        rw [hb] at c5
        obtain ⟨C, hC, hD⟩ := Fx.set_comm hs hb
        obtain ⟨eC, _, gC, _, _⟩ := Fx.set_some hC
        have zC : ∀ x ∈ C, SzX x := by rw [eC]; exact sz_ins hz hg
        have lC : C.length = l.length + 1 := by rw [eC]; exact Fx.ins_len _ _
        have lB : B.length ≤ 4611686018427387904 := by rw [(Fx.set_some hb).1, Fx.ins_len]; omega
        have c7 := fun V q cq (hq : C.length ≤ cq) (hV : Fxs V q C) => ffset_any q cq C a d n e V hq (by omega) zC hf hV
        rw [hD] at c7
        rw [hC] at c6
        exact sy12_yes p c l a d n e u t m k w hc h60 h A B C lA (Lib.hid cs) (Lib.hid cs2) (Lib.hid cm) (Lib.hid co) (Lib.hid co2) (Lib.hid c1) (Lib.hid c2) (Lib.hid c3) (Lib.hid ca) (Lib.hid c4) (Lib.hid c5) (Lib.hid c6) (Lib.hid c7) (Lib.hid c8)
          (Lib.hid fun V p c q b hp hq => by have k := rfsame_any p q c b B B V lB lB hp hq; rw [beq_self_eq_true] at k; exact k)
      | none =>
        rw [hb] at c5
        have zC : ∀ x ∈ (Fx.setF l ((u, t), (m, k))).getD [], SzX x := by
          cases hC : Fx.setF l ((u, t), (m, k)) with
          | none => exact fun x hx => by cases hx
          | some C => rw [show (some C).getD [] = Fx.insF l ((u, t), (m, k)) from (Fx.set_some hC).1]; exact sz_ins hz hg
        have lC : ((Fx.setF l ((u, t), (m, k))).getD []).length ≤ 61 := by
          cases hC : Fx.setF l ((u, t), (m, k)) with
          | none => exact Nat.zero_le _
          | some C => rw [show (some C).getD [] = Fx.insF l ((u, t), (m, k)) from (Fx.set_some hC).1, Fx.ins_len]; omega
        exact sy12_one p c l a d n e u t m k w hc h60 h A ((Fx.setF l ((u, t), (m, k))).getD []) ((Fx.setF ((Fx.setF l ((u, t), (m, k))).getD []) ((a, d), (n, e))).getD []) (Fx.setF l ((u, t), (m, k))).isSome (Fx.setF ((Fx.setF l ((u, t), (m, k))).getD []) ((a, d), (n, e))).isSome lA (Lib.hid cs) (Lib.hid cs2) (Lib.hid cm) (Lib.hid co) (Lib.hid co2) (Lib.hid c1) (Lib.hid c2) (Lib.hid c3) (Lib.hid ca) (Lib.hid c4) (Lib.hid c5) (Lib.hid c6)
          (Lib.hid fun V q cq hq hV => ffset_any q cq _ a d n e V hq (by omega) zC hf hV) (Lib.hid c8)
end Go.Proofs.YtmllklfjngapiaaDoor
