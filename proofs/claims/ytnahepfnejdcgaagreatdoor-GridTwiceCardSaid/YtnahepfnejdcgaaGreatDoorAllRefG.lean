/- The document's answers for rounding: to plain functions. -/
import Derived.Test.YtnahepfnejdcgaaGreatDoorAllRefQ5
import Derived.Test.YtnahepfnejdcgaaGreatDoorGridNum2
namespace Go.Proofs.YtnahepfnejdcgaaGreatDoor
open Go.RowKit
set_option linter.unusedSimpArgs false
set_option linter.unusedVariables false

/-- Nothing is wanted of the world. -/
structure NoW (w : World) : Prop where
  ok : True
theorem NoW.below {w w' : World} (_ : NoW w) (_ : Below w.heap.size w w') : NoW w' := ⟨trivial⟩
theorem noW (w : World) : NoW w := ⟨trivial⟩
set_option maxRecDepth 100000 in
set_option maxHeartbeats 4000000 in
theorem rgw_no (mode : Int) {x1 x2 : List UInt8}  (w : World)
    (CM : Hid (∀ w, Calls Tryz.prog 20 #[.agg #[.string ⟨x1.toArray⟩, .string ⟨x2.toArray⟩]] w (GiveB w false))) :
    Calls Tryz.prog 10 #[.agg #[.string ⟨x1.toArray⟩, .string ⟨x2.toArray⟩], .int .i64 mode] w (GiveS w []) := by
  have HT : Hid (NoW w) := Lib.hid (noW w)
  go_enter Tryz.func10, Tryz.ntmps10
  go_wp2_with fail
  have BW := Below.refl w.heap.size w
  have b0 : Below w.heap.size w w := Below.refl _ _
  obtain ⟨U1, hU, bU, s1, rx0, rx1⟩ := lay b0 (.string ⟨x1.toArray⟩) (.string ⟨x2.toArray⟩) 23
  rw [hU]; clear hU
  clear s1
  replace BW := Below.more BW bU
  replace HT := Lib.hid (HT.out.below bU)
  clear bU
  have b1 := Below.refl U1.heap.size U1
  go_wp2_with fail
  refine (CM.out _).mono ?_
  rintro e w2 ⟨rfl, b⟩
  have b2 := Below.more b1 b
  clear b
  go_wp2_with fail
  go_ret
  exact ⟨rfl, Below.more BW b2⟩
set_option maxRecDepth 100000 in
set_option maxHeartbeats 4000000 in
theorem rgw_lo (mode : Int) {x1 x2 : List UInt8} (h : mode < 0) (w : World)
    (CM : Hid (∀ w, Calls Tryz.prog 20 #[.agg #[.string ⟨x1.toArray⟩, .string ⟨x2.toArray⟩]] w (GiveB w true))) :
    Calls Tryz.prog 10 #[.agg #[.string ⟨x1.toArray⟩, .string ⟨x2.toArray⟩], .int .i64 mode] w (GiveS w []) := by
  have HT : Hid (NoW w) := Lib.hid (noW w)
  go_enter Tryz.func10, Tryz.ntmps10
  go_wp2_with fail
  have BW := Below.refl w.heap.size w
  have b0 : Below w.heap.size w w := Below.refl _ _
  obtain ⟨U1, hU, bU, s1, rx0, rx1⟩ := lay b0 (.string ⟨x1.toArray⟩) (.string ⟨x2.toArray⟩) 23
  rw [hU]; clear hU
  clear s1
  replace BW := Below.more BW bU
  replace HT := Lib.hid (HT.out.below bU)
  clear bU
  have b1 := Below.refl U1.heap.size U1
  go_wp2_with fail
  refine (CM.out _).mono ?_
  rintro e w2 ⟨rfl, b⟩
  have b2 := Below.more b1 b
  clear b
  go_wp2_with fail
  go_ret
  exact ⟨rfl, Below.more BW b2⟩
set_option maxRecDepth 100000 in
set_option maxHeartbeats 4000000 in
theorem rgw_hi (mode : Int) {x1 x2 : List UInt8} (h : ¬ mode < 0) (h2 : 2 < mode) (w : World)
    (CM : Hid (∀ w, Calls Tryz.prog 20 #[.agg #[.string ⟨x1.toArray⟩, .string ⟨x2.toArray⟩]] w (GiveB w true))) :
    Calls Tryz.prog 10 #[.agg #[.string ⟨x1.toArray⟩, .string ⟨x2.toArray⟩], .int .i64 mode] w (GiveS w []) := by
  have HT : Hid (NoW w) := Lib.hid (noW w)
  go_enter Tryz.func10, Tryz.ntmps10
  go_wp2_with fail
  have BW := Below.refl w.heap.size w
  have b0 : Below w.heap.size w w := Below.refl _ _
  obtain ⟨U1, hU, bU, s1, rx0, rx1⟩ := lay b0 (.string ⟨x1.toArray⟩) (.string ⟨x2.toArray⟩) 23
  rw [hU]; clear hU
  clear s1
  replace BW := Below.more BW bU
  replace HT := Lib.hid (HT.out.below bU)
  clear bU
  have b1 := Below.refl U1.heap.size U1
  go_wp2_with fail
  refine (CM.out _).mono ?_
  rintro e w2 ⟨rfl, b⟩
  have b2 := Below.more b1 b
  clear b
  go_wp2_with fail
  go_ret
  exact ⟨rfl, Below.more BW b2⟩
set_option maxRecDepth 100000 in
set_option maxHeartbeats 4000000 in
theorem rgw_m0 (mode : Int) {x1 x2 : List UInt8} {f0 f1 s1 s2 : List UInt8} (m : mode = 0) (w : World)
    (CM : Hid (∀ w, Calls Tryz.prog 20 #[.agg #[.string ⟨x1.toArray⟩, .string ⟨x2.toArray⟩]] w (GiveB w true)))
    (CSP : Hid (∀ w, Calls Tryz.prog 31 #[.agg #[.string ⟨x1.toArray⟩, .string ⟨x2.toArray⟩]] w (GiveSR w (f0, (s1, s2)))))
    (CAD : Hid (∀ w, Calls Tryz.prog 32 #[.string ⟨f0.toArray⟩, .string ⟨#[49]⟩] w (GiveS w f1))) :
    Calls Tryz.prog 10 #[.agg #[.string ⟨x1.toArray⟩, .string ⟨x2.toArray⟩], .int .i64 mode] w (GiveS w f0) := by
  have HT : Hid (NoW w) := Lib.hid (noW w)
  go_enter Tryz.func10, Tryz.ntmps10
  go_wp2_with fail
  have BW := Below.refl w.heap.size w
  have b0 : Below w.heap.size w w := Below.refl _ _
  obtain ⟨U1, hU, bU, s1, rx0, rx1⟩ := lay b0 (.string ⟨x1.toArray⟩) (.string ⟨x2.toArray⟩) 23
  rw [hU]; clear hU
  clear s1
  replace BW := Below.more BW bU
  replace HT := Lib.hid (HT.out.below bU)
  clear bU
  have b1 := Below.refl U1.heap.size U1
  go_wp2_with fail
  refine (CM.out _).mono ?_
  rintro e w2 ⟨rfl, b⟩
  have b2 := Below.more b1 b
  clear b
  go_wp2_with fail
  refine (CSP.out _).mono ?_
  rintro e w3 ⟨rfl, b⟩
  have b3 := Below.more b2 b
  clear b
  have ba := fun x => Below.alloc b3 (Below.size b3) x
  go_wp2_with fail
  obtain ⟨U4, hU, bU, s4, rs0, rs1⟩ := lay b3 (.string ⟨s1.toArray⟩) (.string ⟨s2.toArray⟩) 23
  rw [hU]; clear hU
  clear s4
  replace rx0 := fun v (h : Below U4.heap.size U4 v) => rx0 v (Below.more bU h)
  replace rx1 := fun v (h : Below U4.heap.size U4 v) => rx1 v (Below.more bU h)
  replace BW := Below.more BW bU
  replace HT := Lib.hid (HT.out.below bU)
  clear bU
  have b4 := Below.refl U4.heap.size U4
  clear ba
  refine (CAD.out _).mono ?_
  rintro e w5 ⟨rfl, b⟩
  have b5 := Below.more b4 b
  clear b
  have ba := fun x => Below.alloc b5 (Below.size b5) x
  have bb := fun x y => Below.alloc (ba x) (Below.size (ba x)) y
  go_wp2_with fail
  obtain ⟨U6, hU, bU, s6, rl0, rl1⟩ := lay b5 (.string ⟨f0.toArray⟩) (.string ⟨#[49]⟩) 23
  rw [hU]; clear hU
  replace rx0 := fun v (h : Below U6.heap.size U6 v) => rx0 v (Below.more bU h)
  replace rx1 := fun v (h : Below U6.heap.size U6 v) => rx1 v (Below.more bU h)
  replace rs0 := fun v (h : Below U6.heap.size U6 v) => rs0 v (Below.more bU h)
  replace rs1 := fun v (h : Below U6.heap.size U6 v) => rs1 v (Below.more bU h)
  replace BW := Below.more BW bU
  replace HT := Lib.hid (HT.out.below bU)
  clear bU
  have b6 := Below.refl U6.heap.size U6
  obtain ⟨U7, hU, bU, s7, rh0, rh1⟩ := lay b6 (.string ⟨f1.toArray⟩) (.string ⟨#[49]⟩) 23
  rw [hU]; clear hU
  rw [← s6] at rh0 rh1
  clear s7
  replace rx0 := fun v (h : Below U7.heap.size U7 v) => rx0 v (Below.more bU h)
  replace rx1 := fun v (h : Below U7.heap.size U7 v) => rx1 v (Below.more bU h)
  replace rs0 := fun v (h : Below U7.heap.size U7 v) => rs0 v (Below.more bU h)
  replace rs1 := fun v (h : Below U7.heap.size U7 v) => rs1 v (Below.more bU h)
  replace rl0 := fun v (h : Below U7.heap.size U7 v) => rl0 v (Below.more bU h)
  replace rl1 := fun v (h : Below U7.heap.size U7 v) => rl1 v (Below.more bU h)
  replace BW := Below.more BW bU
  replace HT := Lib.hid (HT.out.below bU)
  clear bU
  have b7 := Below.refl U7.heap.size U7
  clear s6 ba bb
  go_wp2_with fail
  go_ret
  exact ⟨rfl, Below.more BW b7⟩
set_option maxRecDepth 100000 in
set_option maxHeartbeats 4000000 in
theorem rgw_eq (mode : Int) {x1 x2 : List UInt8} {f0 f1 s1 s2 : List UInt8} (m0 : ¬ mode < 0) (m1 : ¬ 2 < mode) (m2 : ¬ mode = 0) (e1 : (f0 == x1) = true) (e2 : (x2 == [49]) = true) (e3 : ([49] == x2) = true) (w : World)
    (CM : Hid (∀ w, Calls Tryz.prog 20 #[.agg #[.string ⟨x1.toArray⟩, .string ⟨x2.toArray⟩]] w (GiveB w true)))
    (CSP : Hid (∀ w, Calls Tryz.prog 31 #[.agg #[.string ⟨x1.toArray⟩, .string ⟨x2.toArray⟩]] w (GiveSR w (f0, (s1, s2)))))
    (CAD : Hid (∀ w, Calls Tryz.prog 32 #[.string ⟨f0.toArray⟩, .string ⟨#[49]⟩] w (GiveS w f1))) :
    Calls Tryz.prog 10 #[.agg #[.string ⟨x1.toArray⟩, .string ⟨x2.toArray⟩], .int .i64 mode] w (GiveS w f0) := by
  have HT : Hid (NoW w) := Lib.hid (noW w)
  go_enter Tryz.func10, Tryz.ntmps10
  go_wp2_with fail
  have BW := Below.refl w.heap.size w
  have b0 : Below w.heap.size w w := Below.refl _ _
  obtain ⟨U1, hU, bU, s1, rx0, rx1⟩ := lay b0 (.string ⟨x1.toArray⟩) (.string ⟨x2.toArray⟩) 23
  rw [hU]; clear hU
  clear s1
  replace BW := Below.more BW bU
  replace HT := Lib.hid (HT.out.below bU)
  clear bU
  have b1 := Below.refl U1.heap.size U1
  go_wp2_with fail
  refine (CM.out _).mono ?_
  rintro e w2 ⟨rfl, b⟩
  have b2 := Below.more b1 b
  clear b
  go_wp2_with fail
  refine (CSP.out _).mono ?_
  rintro e w3 ⟨rfl, b⟩
  have b3 := Below.more b2 b
  clear b
  have ba := fun x => Below.alloc b3 (Below.size b3) x
  go_wp2_with fail
  obtain ⟨U4, hU, bU, s4, rs0, rs1⟩ := lay b3 (.string ⟨s1.toArray⟩) (.string ⟨s2.toArray⟩) 23
  rw [hU]; clear hU
  clear s4
  replace rx0 := fun v (h : Below U4.heap.size U4 v) => rx0 v (Below.more bU h)
  replace rx1 := fun v (h : Below U4.heap.size U4 v) => rx1 v (Below.more bU h)
  replace BW := Below.more BW bU
  replace HT := Lib.hid (HT.out.below bU)
  clear bU
  have b4 := Below.refl U4.heap.size U4
  clear ba
  refine (CAD.out _).mono ?_
  rintro e w5 ⟨rfl, b⟩
  have b5 := Below.more b4 b
  clear b
  have ba := fun x => Below.alloc b5 (Below.size b5) x
  have bb := fun x y => Below.alloc (ba x) (Below.size (ba x)) y
  go_wp2_with fail
  obtain ⟨U6, hU, bU, s6, rl0, rl1⟩ := lay b5 (.string ⟨f0.toArray⟩) (.string ⟨#[49]⟩) 23
  rw [hU]; clear hU
  replace rx0 := fun v (h : Below U6.heap.size U6 v) => rx0 v (Below.more bU h)
  replace rx1 := fun v (h : Below U6.heap.size U6 v) => rx1 v (Below.more bU h)
  replace rs0 := fun v (h : Below U6.heap.size U6 v) => rs0 v (Below.more bU h)
  replace rs1 := fun v (h : Below U6.heap.size U6 v) => rs1 v (Below.more bU h)
  replace BW := Below.more BW bU
  replace HT := Lib.hid (HT.out.below bU)
  clear bU
  have b6 := Below.refl U6.heap.size U6
  obtain ⟨U7, hU, bU, s7, rh0, rh1⟩ := lay b6 (.string ⟨f1.toArray⟩) (.string ⟨#[49]⟩) 23
  rw [hU]; clear hU
  rw [← s6] at rh0 rh1
  clear s7
  replace rx0 := fun v (h : Below U7.heap.size U7 v) => rx0 v (Below.more bU h)
  replace rx1 := fun v (h : Below U7.heap.size U7 v) => rx1 v (Below.more bU h)
  replace rs0 := fun v (h : Below U7.heap.size U7 v) => rs0 v (Below.more bU h)
  replace rs1 := fun v (h : Below U7.heap.size U7 v) => rs1 v (Below.more bU h)
  replace rl0 := fun v (h : Below U7.heap.size U7 v) => rl0 v (Below.more bU h)
  replace rl1 := fun v (h : Below U7.heap.size U7 v) => rl1 v (Below.more bU h)
  replace BW := Below.more BW bU
  replace HT := Lib.hid (HT.out.below bU)
  clear bU
  have b7 := Below.refl U7.heap.size U7
  clear s6 ba bb
  go_wp2_with fail
  go_ret
  exact ⟨rfl, Below.more BW b7⟩
set_option maxRecDepth 100000 in
set_option maxHeartbeats 4000000 in
theorem rgw_tneg_a (mode : Int) {x1 x2 : List UInt8} {f0 f1 s1 s2 : List UInt8} (e1 : (f0 == x1) = false) (e1' : (x1 == f0) = false) {s : Int} (m : mode = 1) (hs : s < 0) (w : World)
    (CM : Hid (∀ w, Calls Tryz.prog 20 #[.agg #[.string ⟨x1.toArray⟩, .string ⟨x2.toArray⟩]] w (GiveB w true)))
    (CSP : Hid (∀ w, Calls Tryz.prog 31 #[.agg #[.string ⟨x1.toArray⟩, .string ⟨x2.toArray⟩]] w (GiveSR w (f0, (s1, s2)))))
    (CAD : Hid (∀ w, Calls Tryz.prog 32 #[.string ⟨f0.toArray⟩, .string ⟨#[49]⟩] w (GiveS w f1)))
    (CSG : Hid (∀ w, Calls Tryz.prog 16 #[.agg #[.string ⟨x1.toArray⟩, .string ⟨x2.toArray⟩]] w (GiveI w s))) :
    Calls Tryz.prog 10 #[.agg #[.string ⟨x1.toArray⟩, .string ⟨x2.toArray⟩], .int .i64 mode] w (GiveS w f1) := by
  have HT : Hid (NoW w) := Lib.hid (noW w)
  go_enter Tryz.func10, Tryz.ntmps10
  go_wp2_with fail
  have BW := Below.refl w.heap.size w
  have b0 : Below w.heap.size w w := Below.refl _ _
  obtain ⟨U1, hU, bU, s1, rx0, rx1⟩ := lay b0 (.string ⟨x1.toArray⟩) (.string ⟨x2.toArray⟩) 23
  rw [hU]; clear hU
  clear s1
  replace BW := Below.more BW bU
  replace HT := Lib.hid (HT.out.below bU)
  clear bU
  have b1 := Below.refl U1.heap.size U1
  go_wp2_with fail
  refine (CM.out _).mono ?_
  rintro e w2 ⟨rfl, b⟩
  have b2 := Below.more b1 b
  clear b
  go_wp2_with fail
  refine (CSP.out _).mono ?_
  rintro e w3 ⟨rfl, b⟩
  have b3 := Below.more b2 b
  clear b
  have ba := fun x => Below.alloc b3 (Below.size b3) x
  go_wp2_with fail
  obtain ⟨U4, hU, bU, s4, rs0, rs1⟩ := lay b3 (.string ⟨s1.toArray⟩) (.string ⟨s2.toArray⟩) 23
  rw [hU]; clear hU
  clear s4
  replace rx0 := fun v (h : Below U4.heap.size U4 v) => rx0 v (Below.more bU h)
  replace rx1 := fun v (h : Below U4.heap.size U4 v) => rx1 v (Below.more bU h)
  replace BW := Below.more BW bU
  replace HT := Lib.hid (HT.out.below bU)
  clear bU
  have b4 := Below.refl U4.heap.size U4
  clear ba
  refine (CAD.out _).mono ?_
  rintro e w5 ⟨rfl, b⟩
  have b5 := Below.more b4 b
  clear b
  have ba := fun x => Below.alloc b5 (Below.size b5) x
  have bb := fun x y => Below.alloc (ba x) (Below.size (ba x)) y
  go_wp2_with fail
  obtain ⟨U6, hU, bU, s6, rl0, rl1⟩ := lay b5 (.string ⟨f0.toArray⟩) (.string ⟨#[49]⟩) 23
  rw [hU]; clear hU
  replace rx0 := fun v (h : Below U6.heap.size U6 v) => rx0 v (Below.more bU h)
  replace rx1 := fun v (h : Below U6.heap.size U6 v) => rx1 v (Below.more bU h)
  replace rs0 := fun v (h : Below U6.heap.size U6 v) => rs0 v (Below.more bU h)
  replace rs1 := fun v (h : Below U6.heap.size U6 v) => rs1 v (Below.more bU h)
  replace BW := Below.more BW bU
  replace HT := Lib.hid (HT.out.below bU)
  clear bU
  have b6 := Below.refl U6.heap.size U6
  obtain ⟨U7, hU, bU, s7, rh0, rh1⟩ := lay b6 (.string ⟨f1.toArray⟩) (.string ⟨#[49]⟩) 23
  rw [hU]; clear hU
  rw [← s6] at rh0 rh1
  clear s7
  replace rx0 := fun v (h : Below U7.heap.size U7 v) => rx0 v (Below.more bU h)
  replace rx1 := fun v (h : Below U7.heap.size U7 v) => rx1 v (Below.more bU h)
  replace rs0 := fun v (h : Below U7.heap.size U7 v) => rs0 v (Below.more bU h)
  replace rs1 := fun v (h : Below U7.heap.size U7 v) => rs1 v (Below.more bU h)
  replace rl0 := fun v (h : Below U7.heap.size U7 v) => rl0 v (Below.more bU h)
  replace rl1 := fun v (h : Below U7.heap.size U7 v) => rl1 v (Below.more bU h)
  replace BW := Below.more BW bU
  replace HT := Lib.hid (HT.out.below bU)
  clear bU
  have b7 := Below.refl U7.heap.size U7
  clear s6 ba bb
  refine (CSG.out _).mono ?_
  rintro e w8 ⟨rfl, b⟩
  have b8 := Below.more b7 b
  clear b
  go_wp2_with fail
  go_ret
  exact ⟨rfl, Below.more BW b8⟩
set_option maxRecDepth 100000 in
set_option maxHeartbeats 4000000 in
theorem rgw_tpos_a (mode : Int) {x1 x2 : List UInt8} {f0 f1 s1 s2 : List UInt8} (e1 : (f0 == x1) = false) (e1' : (x1 == f0) = false) {s : Int} (m : mode = 1) (hs : ¬ s < 0) (w : World)
    (CM : Hid (∀ w, Calls Tryz.prog 20 #[.agg #[.string ⟨x1.toArray⟩, .string ⟨x2.toArray⟩]] w (GiveB w true)))
    (CSP : Hid (∀ w, Calls Tryz.prog 31 #[.agg #[.string ⟨x1.toArray⟩, .string ⟨x2.toArray⟩]] w (GiveSR w (f0, (s1, s2)))))
    (CAD : Hid (∀ w, Calls Tryz.prog 32 #[.string ⟨f0.toArray⟩, .string ⟨#[49]⟩] w (GiveS w f1)))
    (CSG : Hid (∀ w, Calls Tryz.prog 16 #[.agg #[.string ⟨x1.toArray⟩, .string ⟨x2.toArray⟩]] w (GiveI w s))) :
    Calls Tryz.prog 10 #[.agg #[.string ⟨x1.toArray⟩, .string ⟨x2.toArray⟩], .int .i64 mode] w (GiveS w f0) := by
  have HT : Hid (NoW w) := Lib.hid (noW w)
  go_enter Tryz.func10, Tryz.ntmps10
  go_wp2_with fail
  have BW := Below.refl w.heap.size w
  have b0 : Below w.heap.size w w := Below.refl _ _
  obtain ⟨U1, hU, bU, s1, rx0, rx1⟩ := lay b0 (.string ⟨x1.toArray⟩) (.string ⟨x2.toArray⟩) 23
  rw [hU]; clear hU
  clear s1
  replace BW := Below.more BW bU
  replace HT := Lib.hid (HT.out.below bU)
  clear bU
  have b1 := Below.refl U1.heap.size U1
  go_wp2_with fail
  refine (CM.out _).mono ?_
  rintro e w2 ⟨rfl, b⟩
  have b2 := Below.more b1 b
  clear b
  go_wp2_with fail
  refine (CSP.out _).mono ?_
  rintro e w3 ⟨rfl, b⟩
  have b3 := Below.more b2 b
  clear b
  have ba := fun x => Below.alloc b3 (Below.size b3) x
  go_wp2_with fail
  obtain ⟨U4, hU, bU, s4, rs0, rs1⟩ := lay b3 (.string ⟨s1.toArray⟩) (.string ⟨s2.toArray⟩) 23
  rw [hU]; clear hU
  clear s4
  replace rx0 := fun v (h : Below U4.heap.size U4 v) => rx0 v (Below.more bU h)
  replace rx1 := fun v (h : Below U4.heap.size U4 v) => rx1 v (Below.more bU h)
  replace BW := Below.more BW bU
  replace HT := Lib.hid (HT.out.below bU)
  clear bU
  have b4 := Below.refl U4.heap.size U4
  clear ba
  refine (CAD.out _).mono ?_
  rintro e w5 ⟨rfl, b⟩
  have b5 := Below.more b4 b
  clear b
  have ba := fun x => Below.alloc b5 (Below.size b5) x
  have bb := fun x y => Below.alloc (ba x) (Below.size (ba x)) y
  go_wp2_with fail
  obtain ⟨U6, hU, bU, s6, rl0, rl1⟩ := lay b5 (.string ⟨f0.toArray⟩) (.string ⟨#[49]⟩) 23
  rw [hU]; clear hU
  replace rx0 := fun v (h : Below U6.heap.size U6 v) => rx0 v (Below.more bU h)
  replace rx1 := fun v (h : Below U6.heap.size U6 v) => rx1 v (Below.more bU h)
  replace rs0 := fun v (h : Below U6.heap.size U6 v) => rs0 v (Below.more bU h)
  replace rs1 := fun v (h : Below U6.heap.size U6 v) => rs1 v (Below.more bU h)
  replace BW := Below.more BW bU
  replace HT := Lib.hid (HT.out.below bU)
  clear bU
  have b6 := Below.refl U6.heap.size U6
  obtain ⟨U7, hU, bU, s7, rh0, rh1⟩ := lay b6 (.string ⟨f1.toArray⟩) (.string ⟨#[49]⟩) 23
  rw [hU]; clear hU
  rw [← s6] at rh0 rh1
  clear s7
  replace rx0 := fun v (h : Below U7.heap.size U7 v) => rx0 v (Below.more bU h)
  replace rx1 := fun v (h : Below U7.heap.size U7 v) => rx1 v (Below.more bU h)
  replace rs0 := fun v (h : Below U7.heap.size U7 v) => rs0 v (Below.more bU h)
  replace rs1 := fun v (h : Below U7.heap.size U7 v) => rs1 v (Below.more bU h)
  replace rl0 := fun v (h : Below U7.heap.size U7 v) => rl0 v (Below.more bU h)
  replace rl1 := fun v (h : Below U7.heap.size U7 v) => rl1 v (Below.more bU h)
  replace BW := Below.more BW bU
  replace HT := Lib.hid (HT.out.below bU)
  clear bU
  have b7 := Below.refl U7.heap.size U7
  clear s6 ba bb
  refine (CSG.out _).mono ?_
  rintro e w8 ⟨rfl, b⟩
  have b8 := Below.more b7 b
  clear b
  go_wp2_with fail
  go_ret
  exact ⟨rfl, Below.more BW b8⟩
set_option maxRecDepth 100000 in
set_option maxHeartbeats 4000000 in
theorem rgw_lt_a (mode : Int) {x1 x2 : List UInt8} {f0 f1 s1 s2 : List UInt8} (e1 : (f0 == x1) = false) (e1' : (x1 == f0) = false) {u1 u2 v1 v2 q r : List UInt8} {c : Int} (m : mode = 2) (hc : c < 0) (w : World)
    (CM : Hid (∀ w, Calls Tryz.prog 20 #[.agg #[.string ⟨x1.toArray⟩, .string ⟨x2.toArray⟩]] w (GiveB w true)))
    (CSP : Hid (∀ w, Calls Tryz.prog 31 #[.agg #[.string ⟨x1.toArray⟩, .string ⟨x2.toArray⟩]] w (GiveSR w (f0, (s1, s2)))))
    (CAD : Hid (∀ w, Calls Tryz.prog 32 #[.string ⟨f0.toArray⟩, .string ⟨#[49]⟩] w (GiveS w f1)))
    (C1 : Hid (∀ w, Calls Tryz.prog 18 #[.agg #[.string ⟨x1.toArray⟩, .string ⟨x2.toArray⟩], .agg #[.string ⟨f0.toArray⟩, .string ⟨#[49]⟩]] w (GiveR w (u1, u2))))
    (C2 : Hid (∀ w, Calls Tryz.prog 18 #[.agg #[.string ⟨f1.toArray⟩, .string ⟨#[49]⟩], .agg #[.string ⟨x1.toArray⟩, .string ⟨x2.toArray⟩]] w (GiveR w (v1, v2))))
    (CC : Hid (∀ w, Calls Tryz.prog 21 #[.agg #[.string ⟨u1.toArray⟩, .string ⟨u2.toArray⟩], .agg #[.string ⟨v1.toArray⟩, .string ⟨v2.toArray⟩]] w (GiveI w c)))
    (CD : Hid (∀ w, Calls Tryz.prog 33 #[.string ⟨f0.toArray⟩, .string ⟨#[50]⟩] w (GiveSSB w (q, r, true)))) :
    Calls Tryz.prog 10 #[.agg #[.string ⟨x1.toArray⟩, .string ⟨x2.toArray⟩], .int .i64 mode] w (GiveS w f0) := by
  have HT : Hid (NoW w) := Lib.hid (noW w)
  go_enter Tryz.func10, Tryz.ntmps10
  go_wp2_with fail
  have BW := Below.refl w.heap.size w
  have b0 : Below w.heap.size w w := Below.refl _ _
  obtain ⟨U1, hU, bU, s1, rx0, rx1⟩ := lay b0 (.string ⟨x1.toArray⟩) (.string ⟨x2.toArray⟩) 23
  rw [hU]; clear hU
  clear s1
  replace BW := Below.more BW bU
  replace HT := Lib.hid (HT.out.below bU)
  clear bU
  have b1 := Below.refl U1.heap.size U1
  go_wp2_with fail
  refine (CM.out _).mono ?_
  rintro e w2 ⟨rfl, b⟩
  have b2 := Below.more b1 b
  clear b
  go_wp2_with fail
  refine (CSP.out _).mono ?_
  rintro e w3 ⟨rfl, b⟩
  have b3 := Below.more b2 b
  clear b
  have ba := fun x => Below.alloc b3 (Below.size b3) x
  go_wp2_with fail
  obtain ⟨U4, hU, bU, s4, rs0, rs1⟩ := lay b3 (.string ⟨s1.toArray⟩) (.string ⟨s2.toArray⟩) 23
  rw [hU]; clear hU
  clear s4
  replace rx0 := fun v (h : Below U4.heap.size U4 v) => rx0 v (Below.more bU h)
  replace rx1 := fun v (h : Below U4.heap.size U4 v) => rx1 v (Below.more bU h)
  replace BW := Below.more BW bU
  replace HT := Lib.hid (HT.out.below bU)
  clear bU
  have b4 := Below.refl U4.heap.size U4
  clear ba
  refine (CAD.out _).mono ?_
  rintro e w5 ⟨rfl, b⟩
  have b5 := Below.more b4 b
  clear b
  have ba := fun x => Below.alloc b5 (Below.size b5) x
  have bb := fun x y => Below.alloc (ba x) (Below.size (ba x)) y
  go_wp2_with fail
  obtain ⟨U6, hU, bU, s6, rl0, rl1⟩ := lay b5 (.string ⟨f0.toArray⟩) (.string ⟨#[49]⟩) 23
  rw [hU]; clear hU
  replace rx0 := fun v (h : Below U6.heap.size U6 v) => rx0 v (Below.more bU h)
  replace rx1 := fun v (h : Below U6.heap.size U6 v) => rx1 v (Below.more bU h)
  replace rs0 := fun v (h : Below U6.heap.size U6 v) => rs0 v (Below.more bU h)
  replace rs1 := fun v (h : Below U6.heap.size U6 v) => rs1 v (Below.more bU h)
  replace BW := Below.more BW bU
  replace HT := Lib.hid (HT.out.below bU)
  clear bU
  have b6 := Below.refl U6.heap.size U6
  obtain ⟨U7, hU, bU, s7, rh0, rh1⟩ := lay b6 (.string ⟨f1.toArray⟩) (.string ⟨#[49]⟩) 23
  rw [hU]; clear hU
  rw [← s6] at rh0 rh1
  clear s7
  replace rx0 := fun v (h : Below U7.heap.size U7 v) => rx0 v (Below.more bU h)
  replace rx1 := fun v (h : Below U7.heap.size U7 v) => rx1 v (Below.more bU h)
  replace rs0 := fun v (h : Below U7.heap.size U7 v) => rs0 v (Below.more bU h)
  replace rs1 := fun v (h : Below U7.heap.size U7 v) => rs1 v (Below.more bU h)
  replace rl0 := fun v (h : Below U7.heap.size U7 v) => rl0 v (Below.more bU h)
  replace rl1 := fun v (h : Below U7.heap.size U7 v) => rl1 v (Below.more bU h)
  replace BW := Below.more BW bU
  replace HT := Lib.hid (HT.out.below bU)
  clear bU
  have b7 := Below.refl U7.heap.size U7
  clear s6 ba bb
  have hB := Lib.hid (Nat.le_refl U7.heap.size)
  first | (go_region_held3 (fun w' => Below U7.heap.size U7 w')
      (first | (exact b7.drew) | (with_reducible assumption) | (exact Below.alloc (by with_reducible assumption) (Nat.le_trans hB.out (Below.size (by with_reducible assumption))) _) | (exact put2 (by with_reducible assumption) (Nat.le_refl _) _ _) | (exact put2 (by with_reducible assumption) hB.out _ _) | (exact put2 (by with_reducible assumption) (Nat.le_trans hB.out (Below.size (by with_reducible assumption))) _ _))
      (first | (go_at_call 18; (with_reducible show Calls _ _ #[.agg #[.string ⟨x1.toArray⟩, .string ⟨x2.toArray⟩], .agg #[.string ⟨f0.toArray⟩, .string ⟨#[49]⟩]] _ _); (with_reducible refine (held (W := U7) hB.out (C1.out _) (by assumption)).mono ?_); rintro e w'' ⟨rfl, hb, hw⟩; (first | (have hz := zc_made0 hb) | (have hz := zc_made hb) | skip); (try have hz := Zc.below (by assumption) hb); (try (have z0 := hz.c0; have z1 := hz.c1; have z2 := hz.f0; have z3 := hz.f1))) | (go_at_call 18; (with_reducible show Calls _ _ #[.agg #[.string ⟨f1.toArray⟩, .string ⟨#[49]⟩], .agg #[.string ⟨x1.toArray⟩, .string ⟨x2.toArray⟩]] _ _); (with_reducible refine (held (W := U7) hB.out (C2.out _) (by assumption)).mono ?_); rintro e w'' ⟨rfl, hb, hw⟩; (first | (have hz := zc_made0 hb) | (have hz := zc_made hb) | skip); (try have hz := Zc.below (by assumption) hb); (try (have z0 := hz.c0; have z1 := hz.c1; have z2 := hz.f0; have z3 := hz.f1))) | (go_at_call 21; (with_reducible refine (held (W := U7) hB.out (CC.out _) (by assumption)).mono ?_); rintro e w'' ⟨rfl, hb, hw⟩; (first | (have hz := zc_made0 hb) | (have hz := zc_made hb) | skip); (try have hz := Zc.below (by assumption) hb); (try (have z0 := hz.c0; have z1 := hz.c1; have z2 := hz.f0; have z3 := hz.f1))))) | fail
  rename_i hH
  have b8 := hH
  clear hH hB
  go_wp2_with fail
  refine (CD.out _).mono ?_
  rintro e w9 ⟨rfl, b⟩
  have b9 := Below.more b8 b
  clear b
  go_wp2_with fail
  go_ret
  exact ⟨rfl, Below.more BW b9⟩
set_option maxRecDepth 100000 in
set_option maxHeartbeats 4000000 in
theorem rgw_even_a (mode : Int) {x1 x2 : List UInt8} {f0 f1 s1 s2 : List UInt8} (e1 : (f0 == x1) = false) (e1' : (x1 == f0) = false) {u1 u2 v1 v2 q r : List UInt8} {c : Int} (m : mode = 2) (hc : c = 0) (hr : (r == [48]) = true) (w : World)
    (CM : Hid (∀ w, Calls Tryz.prog 20 #[.agg #[.string ⟨x1.toArray⟩, .string ⟨x2.toArray⟩]] w (GiveB w true)))
    (CSP : Hid (∀ w, Calls Tryz.prog 31 #[.agg #[.string ⟨x1.toArray⟩, .string ⟨x2.toArray⟩]] w (GiveSR w (f0, (s1, s2)))))
    (CAD : Hid (∀ w, Calls Tryz.prog 32 #[.string ⟨f0.toArray⟩, .string ⟨#[49]⟩] w (GiveS w f1)))
    (C1 : Hid (∀ w, Calls Tryz.prog 18 #[.agg #[.string ⟨x1.toArray⟩, .string ⟨x2.toArray⟩], .agg #[.string ⟨f0.toArray⟩, .string ⟨#[49]⟩]] w (GiveR w (u1, u2))))
    (C2 : Hid (∀ w, Calls Tryz.prog 18 #[.agg #[.string ⟨f1.toArray⟩, .string ⟨#[49]⟩], .agg #[.string ⟨x1.toArray⟩, .string ⟨x2.toArray⟩]] w (GiveR w (v1, v2))))
    (CC : Hid (∀ w, Calls Tryz.prog 21 #[.agg #[.string ⟨u1.toArray⟩, .string ⟨u2.toArray⟩], .agg #[.string ⟨v1.toArray⟩, .string ⟨v2.toArray⟩]] w (GiveI w c)))
    (CD : Hid (∀ w, Calls Tryz.prog 33 #[.string ⟨f0.toArray⟩, .string ⟨#[50]⟩] w (GiveSSB w (q, r, true)))) :
    Calls Tryz.prog 10 #[.agg #[.string ⟨x1.toArray⟩, .string ⟨x2.toArray⟩], .int .i64 mode] w (GiveS w f0) := by
  have HT : Hid (NoW w) := Lib.hid (noW w)
  go_enter Tryz.func10, Tryz.ntmps10
  go_wp2_with fail
  have BW := Below.refl w.heap.size w
  have b0 : Below w.heap.size w w := Below.refl _ _
  obtain ⟨U1, hU, bU, s1, rx0, rx1⟩ := lay b0 (.string ⟨x1.toArray⟩) (.string ⟨x2.toArray⟩) 23
  rw [hU]; clear hU
  clear s1
  replace BW := Below.more BW bU
  replace HT := Lib.hid (HT.out.below bU)
  clear bU
  have b1 := Below.refl U1.heap.size U1
  go_wp2_with fail
  refine (CM.out _).mono ?_
  rintro e w2 ⟨rfl, b⟩
  have b2 := Below.more b1 b
  clear b
  go_wp2_with fail
  refine (CSP.out _).mono ?_
  rintro e w3 ⟨rfl, b⟩
  have b3 := Below.more b2 b
  clear b
  have ba := fun x => Below.alloc b3 (Below.size b3) x
  go_wp2_with fail
  obtain ⟨U4, hU, bU, s4, rs0, rs1⟩ := lay b3 (.string ⟨s1.toArray⟩) (.string ⟨s2.toArray⟩) 23
  rw [hU]; clear hU
  clear s4
  replace rx0 := fun v (h : Below U4.heap.size U4 v) => rx0 v (Below.more bU h)
  replace rx1 := fun v (h : Below U4.heap.size U4 v) => rx1 v (Below.more bU h)
  replace BW := Below.more BW bU
  replace HT := Lib.hid (HT.out.below bU)
  clear bU
  have b4 := Below.refl U4.heap.size U4
  clear ba
  refine (CAD.out _).mono ?_
  rintro e w5 ⟨rfl, b⟩
  have b5 := Below.more b4 b
  clear b
  have ba := fun x => Below.alloc b5 (Below.size b5) x
  have bb := fun x y => Below.alloc (ba x) (Below.size (ba x)) y
  go_wp2_with fail
  obtain ⟨U6, hU, bU, s6, rl0, rl1⟩ := lay b5 (.string ⟨f0.toArray⟩) (.string ⟨#[49]⟩) 23
  rw [hU]; clear hU
  replace rx0 := fun v (h : Below U6.heap.size U6 v) => rx0 v (Below.more bU h)
  replace rx1 := fun v (h : Below U6.heap.size U6 v) => rx1 v (Below.more bU h)
  replace rs0 := fun v (h : Below U6.heap.size U6 v) => rs0 v (Below.more bU h)
  replace rs1 := fun v (h : Below U6.heap.size U6 v) => rs1 v (Below.more bU h)
  replace BW := Below.more BW bU
  replace HT := Lib.hid (HT.out.below bU)
  clear bU
  have b6 := Below.refl U6.heap.size U6
  obtain ⟨U7, hU, bU, s7, rh0, rh1⟩ := lay b6 (.string ⟨f1.toArray⟩) (.string ⟨#[49]⟩) 23
  rw [hU]; clear hU
  rw [← s6] at rh0 rh1
  clear s7
  replace rx0 := fun v (h : Below U7.heap.size U7 v) => rx0 v (Below.more bU h)
  replace rx1 := fun v (h : Below U7.heap.size U7 v) => rx1 v (Below.more bU h)
  replace rs0 := fun v (h : Below U7.heap.size U7 v) => rs0 v (Below.more bU h)
  replace rs1 := fun v (h : Below U7.heap.size U7 v) => rs1 v (Below.more bU h)
  replace rl0 := fun v (h : Below U7.heap.size U7 v) => rl0 v (Below.more bU h)
  replace rl1 := fun v (h : Below U7.heap.size U7 v) => rl1 v (Below.more bU h)
  replace BW := Below.more BW bU
  replace HT := Lib.hid (HT.out.below bU)
  clear bU
  have b7 := Below.refl U7.heap.size U7
  clear s6 ba bb
  have hB := Lib.hid (Nat.le_refl U7.heap.size)
  first | (go_region_held3 (fun w' => Below U7.heap.size U7 w')
      (first | (exact b7.drew) | (with_reducible assumption) | (exact Below.alloc (by with_reducible assumption) (Nat.le_trans hB.out (Below.size (by with_reducible assumption))) _) | (exact put2 (by with_reducible assumption) (Nat.le_refl _) _ _) | (exact put2 (by with_reducible assumption) hB.out _ _) | (exact put2 (by with_reducible assumption) (Nat.le_trans hB.out (Below.size (by with_reducible assumption))) _ _))
      (first | (go_at_call 18; (with_reducible show Calls _ _ #[.agg #[.string ⟨x1.toArray⟩, .string ⟨x2.toArray⟩], .agg #[.string ⟨f0.toArray⟩, .string ⟨#[49]⟩]] _ _); (with_reducible refine (held (W := U7) hB.out (C1.out _) (by assumption)).mono ?_); rintro e w'' ⟨rfl, hb, hw⟩; (first | (have hz := zc_made0 hb) | (have hz := zc_made hb) | skip); (try have hz := Zc.below (by assumption) hb); (try (have z0 := hz.c0; have z1 := hz.c1; have z2 := hz.f0; have z3 := hz.f1))) | (go_at_call 18; (with_reducible show Calls _ _ #[.agg #[.string ⟨f1.toArray⟩, .string ⟨#[49]⟩], .agg #[.string ⟨x1.toArray⟩, .string ⟨x2.toArray⟩]] _ _); (with_reducible refine (held (W := U7) hB.out (C2.out _) (by assumption)).mono ?_); rintro e w'' ⟨rfl, hb, hw⟩; (first | (have hz := zc_made0 hb) | (have hz := zc_made hb) | skip); (try have hz := Zc.below (by assumption) hb); (try (have z0 := hz.c0; have z1 := hz.c1; have z2 := hz.f0; have z3 := hz.f1))) | (go_at_call 21; (with_reducible refine (held (W := U7) hB.out (CC.out _) (by assumption)).mono ?_); rintro e w'' ⟨rfl, hb, hw⟩; (first | (have hz := zc_made0 hb) | (have hz := zc_made hb) | skip); (try have hz := Zc.below (by assumption) hb); (try (have z0 := hz.c0; have z1 := hz.c1; have z2 := hz.f0; have z3 := hz.f1))))) | fail
  rename_i hH
  have b8 := hH
  clear hH hB
  go_wp2_with fail
  refine (CD.out _).mono ?_
  rintro e w9 ⟨rfl, b⟩
  have b9 := Below.more b8 b
  clear b
  go_wp2_with fail
  go_ret
  exact ⟨rfl, Below.more BW b9⟩
set_option maxRecDepth 100000 in
set_option maxHeartbeats 4000000 in
theorem rgw_odd_a (mode : Int) {x1 x2 : List UInt8} {f0 f1 s1 s2 : List UInt8} (e1 : (f0 == x1) = false) (e1' : (x1 == f0) = false) {u1 u2 v1 v2 q r : List UInt8} {c : Int} (m : mode = 2) (hc : c = 0) (hr : (r == [48]) = false) (w : World)
    (CM : Hid (∀ w, Calls Tryz.prog 20 #[.agg #[.string ⟨x1.toArray⟩, .string ⟨x2.toArray⟩]] w (GiveB w true)))
    (CSP : Hid (∀ w, Calls Tryz.prog 31 #[.agg #[.string ⟨x1.toArray⟩, .string ⟨x2.toArray⟩]] w (GiveSR w (f0, (s1, s2)))))
    (CAD : Hid (∀ w, Calls Tryz.prog 32 #[.string ⟨f0.toArray⟩, .string ⟨#[49]⟩] w (GiveS w f1)))
    (C1 : Hid (∀ w, Calls Tryz.prog 18 #[.agg #[.string ⟨x1.toArray⟩, .string ⟨x2.toArray⟩], .agg #[.string ⟨f0.toArray⟩, .string ⟨#[49]⟩]] w (GiveR w (u1, u2))))
    (C2 : Hid (∀ w, Calls Tryz.prog 18 #[.agg #[.string ⟨f1.toArray⟩, .string ⟨#[49]⟩], .agg #[.string ⟨x1.toArray⟩, .string ⟨x2.toArray⟩]] w (GiveR w (v1, v2))))
    (CC : Hid (∀ w, Calls Tryz.prog 21 #[.agg #[.string ⟨u1.toArray⟩, .string ⟨u2.toArray⟩], .agg #[.string ⟨v1.toArray⟩, .string ⟨v2.toArray⟩]] w (GiveI w c)))
    (CD : Hid (∀ w, Calls Tryz.prog 33 #[.string ⟨f0.toArray⟩, .string ⟨#[50]⟩] w (GiveSSB w (q, r, true)))) :
    Calls Tryz.prog 10 #[.agg #[.string ⟨x1.toArray⟩, .string ⟨x2.toArray⟩], .int .i64 mode] w (GiveS w f1) := by
  have HT : Hid (NoW w) := Lib.hid (noW w)
  go_enter Tryz.func10, Tryz.ntmps10
  go_wp2_with fail
  have BW := Below.refl w.heap.size w
  have b0 : Below w.heap.size w w := Below.refl _ _
  obtain ⟨U1, hU, bU, s1, rx0, rx1⟩ := lay b0 (.string ⟨x1.toArray⟩) (.string ⟨x2.toArray⟩) 23
  rw [hU]; clear hU
  clear s1
  replace BW := Below.more BW bU
  replace HT := Lib.hid (HT.out.below bU)
  clear bU
  have b1 := Below.refl U1.heap.size U1
  go_wp2_with fail
  refine (CM.out _).mono ?_
  rintro e w2 ⟨rfl, b⟩
  have b2 := Below.more b1 b
  clear b
  go_wp2_with fail
  refine (CSP.out _).mono ?_
  rintro e w3 ⟨rfl, b⟩
  have b3 := Below.more b2 b
  clear b
  have ba := fun x => Below.alloc b3 (Below.size b3) x
  go_wp2_with fail
  obtain ⟨U4, hU, bU, s4, rs0, rs1⟩ := lay b3 (.string ⟨s1.toArray⟩) (.string ⟨s2.toArray⟩) 23
  rw [hU]; clear hU
  clear s4
  replace rx0 := fun v (h : Below U4.heap.size U4 v) => rx0 v (Below.more bU h)
  replace rx1 := fun v (h : Below U4.heap.size U4 v) => rx1 v (Below.more bU h)
  replace BW := Below.more BW bU
  replace HT := Lib.hid (HT.out.below bU)
  clear bU
  have b4 := Below.refl U4.heap.size U4
  clear ba
  refine (CAD.out _).mono ?_
  rintro e w5 ⟨rfl, b⟩
  have b5 := Below.more b4 b
  clear b
  have ba := fun x => Below.alloc b5 (Below.size b5) x
  have bb := fun x y => Below.alloc (ba x) (Below.size (ba x)) y
  go_wp2_with fail
  obtain ⟨U6, hU, bU, s6, rl0, rl1⟩ := lay b5 (.string ⟨f0.toArray⟩) (.string ⟨#[49]⟩) 23
  rw [hU]; clear hU
  replace rx0 := fun v (h : Below U6.heap.size U6 v) => rx0 v (Below.more bU h)
  replace rx1 := fun v (h : Below U6.heap.size U6 v) => rx1 v (Below.more bU h)
  replace rs0 := fun v (h : Below U6.heap.size U6 v) => rs0 v (Below.more bU h)
  replace rs1 := fun v (h : Below U6.heap.size U6 v) => rs1 v (Below.more bU h)
  replace BW := Below.more BW bU
  replace HT := Lib.hid (HT.out.below bU)
  clear bU
  have b6 := Below.refl U6.heap.size U6
  obtain ⟨U7, hU, bU, s7, rh0, rh1⟩ := lay b6 (.string ⟨f1.toArray⟩) (.string ⟨#[49]⟩) 23
  rw [hU]; clear hU
  rw [← s6] at rh0 rh1
  clear s7
  replace rx0 := fun v (h : Below U7.heap.size U7 v) => rx0 v (Below.more bU h)
  replace rx1 := fun v (h : Below U7.heap.size U7 v) => rx1 v (Below.more bU h)
  replace rs0 := fun v (h : Below U7.heap.size U7 v) => rs0 v (Below.more bU h)
  replace rs1 := fun v (h : Below U7.heap.size U7 v) => rs1 v (Below.more bU h)
  replace rl0 := fun v (h : Below U7.heap.size U7 v) => rl0 v (Below.more bU h)
  replace rl1 := fun v (h : Below U7.heap.size U7 v) => rl1 v (Below.more bU h)
  replace BW := Below.more BW bU
  replace HT := Lib.hid (HT.out.below bU)
  clear bU
  have b7 := Below.refl U7.heap.size U7
  clear s6 ba bb
  have hB := Lib.hid (Nat.le_refl U7.heap.size)
  first | (go_region_held3 (fun w' => Below U7.heap.size U7 w')
      (first | (exact b7.drew) | (with_reducible assumption) | (exact Below.alloc (by with_reducible assumption) (Nat.le_trans hB.out (Below.size (by with_reducible assumption))) _) | (exact put2 (by with_reducible assumption) (Nat.le_refl _) _ _) | (exact put2 (by with_reducible assumption) hB.out _ _) | (exact put2 (by with_reducible assumption) (Nat.le_trans hB.out (Below.size (by with_reducible assumption))) _ _))
      (first | (go_at_call 18; (with_reducible show Calls _ _ #[.agg #[.string ⟨x1.toArray⟩, .string ⟨x2.toArray⟩], .agg #[.string ⟨f0.toArray⟩, .string ⟨#[49]⟩]] _ _); (with_reducible refine (held (W := U7) hB.out (C1.out _) (by assumption)).mono ?_); rintro e w'' ⟨rfl, hb, hw⟩; (first | (have hz := zc_made0 hb) | (have hz := zc_made hb) | skip); (try have hz := Zc.below (by assumption) hb); (try (have z0 := hz.c0; have z1 := hz.c1; have z2 := hz.f0; have z3 := hz.f1))) | (go_at_call 18; (with_reducible show Calls _ _ #[.agg #[.string ⟨f1.toArray⟩, .string ⟨#[49]⟩], .agg #[.string ⟨x1.toArray⟩, .string ⟨x2.toArray⟩]] _ _); (with_reducible refine (held (W := U7) hB.out (C2.out _) (by assumption)).mono ?_); rintro e w'' ⟨rfl, hb, hw⟩; (first | (have hz := zc_made0 hb) | (have hz := zc_made hb) | skip); (try have hz := Zc.below (by assumption) hb); (try (have z0 := hz.c0; have z1 := hz.c1; have z2 := hz.f0; have z3 := hz.f1))) | (go_at_call 21; (with_reducible refine (held (W := U7) hB.out (CC.out _) (by assumption)).mono ?_); rintro e w'' ⟨rfl, hb, hw⟩; (first | (have hz := zc_made0 hb) | (have hz := zc_made hb) | skip); (try have hz := Zc.below (by assumption) hb); (try (have z0 := hz.c0; have z1 := hz.c1; have z2 := hz.f0; have z3 := hz.f1))))) | fail
  rename_i hH
  have b8 := hH
  clear hH hB
  go_wp2_with fail
  refine (CD.out _).mono ?_
  rintro e w9 ⟨rfl, b⟩
  have b9 := Below.more b8 b
  clear b
  go_wp2_with fail
  go_ret
  exact ⟨rfl, Below.more BW b9⟩
set_option maxRecDepth 100000 in
set_option maxHeartbeats 4000000 in
theorem rgw_gt_a (mode : Int) {x1 x2 : List UInt8} {f0 f1 s1 s2 : List UInt8} (e1 : (f0 == x1) = false) (e1' : (x1 == f0) = false) {u1 u2 v1 v2 q r : List UInt8} {c : Int} (m : mode = 2) (hc : ¬ c < 0) (hc2 : ¬ c = 0) (w : World)
    (CM : Hid (∀ w, Calls Tryz.prog 20 #[.agg #[.string ⟨x1.toArray⟩, .string ⟨x2.toArray⟩]] w (GiveB w true)))
    (CSP : Hid (∀ w, Calls Tryz.prog 31 #[.agg #[.string ⟨x1.toArray⟩, .string ⟨x2.toArray⟩]] w (GiveSR w (f0, (s1, s2)))))
    (CAD : Hid (∀ w, Calls Tryz.prog 32 #[.string ⟨f0.toArray⟩, .string ⟨#[49]⟩] w (GiveS w f1)))
    (C1 : Hid (∀ w, Calls Tryz.prog 18 #[.agg #[.string ⟨x1.toArray⟩, .string ⟨x2.toArray⟩], .agg #[.string ⟨f0.toArray⟩, .string ⟨#[49]⟩]] w (GiveR w (u1, u2))))
    (C2 : Hid (∀ w, Calls Tryz.prog 18 #[.agg #[.string ⟨f1.toArray⟩, .string ⟨#[49]⟩], .agg #[.string ⟨x1.toArray⟩, .string ⟨x2.toArray⟩]] w (GiveR w (v1, v2))))
    (CC : Hid (∀ w, Calls Tryz.prog 21 #[.agg #[.string ⟨u1.toArray⟩, .string ⟨u2.toArray⟩], .agg #[.string ⟨v1.toArray⟩, .string ⟨v2.toArray⟩]] w (GiveI w c)))
    (CD : Hid (∀ w, Calls Tryz.prog 33 #[.string ⟨f0.toArray⟩, .string ⟨#[50]⟩] w (GiveSSB w (q, r, true)))) :
    Calls Tryz.prog 10 #[.agg #[.string ⟨x1.toArray⟩, .string ⟨x2.toArray⟩], .int .i64 mode] w (GiveS w f1) := by
  have HT : Hid (NoW w) := Lib.hid (noW w)
  go_enter Tryz.func10, Tryz.ntmps10
  go_wp2_with fail
  have BW := Below.refl w.heap.size w
  have b0 : Below w.heap.size w w := Below.refl _ _
  obtain ⟨U1, hU, bU, s1, rx0, rx1⟩ := lay b0 (.string ⟨x1.toArray⟩) (.string ⟨x2.toArray⟩) 23
  rw [hU]; clear hU
  clear s1
  replace BW := Below.more BW bU
  replace HT := Lib.hid (HT.out.below bU)
  clear bU
  have b1 := Below.refl U1.heap.size U1
  go_wp2_with fail
  refine (CM.out _).mono ?_
  rintro e w2 ⟨rfl, b⟩
  have b2 := Below.more b1 b
  clear b
  go_wp2_with fail
  refine (CSP.out _).mono ?_
  rintro e w3 ⟨rfl, b⟩
  have b3 := Below.more b2 b
  clear b
  have ba := fun x => Below.alloc b3 (Below.size b3) x
  go_wp2_with fail
  obtain ⟨U4, hU, bU, s4, rs0, rs1⟩ := lay b3 (.string ⟨s1.toArray⟩) (.string ⟨s2.toArray⟩) 23
  rw [hU]; clear hU
  clear s4
  replace rx0 := fun v (h : Below U4.heap.size U4 v) => rx0 v (Below.more bU h)
  replace rx1 := fun v (h : Below U4.heap.size U4 v) => rx1 v (Below.more bU h)
  replace BW := Below.more BW bU
  replace HT := Lib.hid (HT.out.below bU)
  clear bU
  have b4 := Below.refl U4.heap.size U4
  clear ba
  refine (CAD.out _).mono ?_
  rintro e w5 ⟨rfl, b⟩
  have b5 := Below.more b4 b
  clear b
  have ba := fun x => Below.alloc b5 (Below.size b5) x
  have bb := fun x y => Below.alloc (ba x) (Below.size (ba x)) y
  go_wp2_with fail
  obtain ⟨U6, hU, bU, s6, rl0, rl1⟩ := lay b5 (.string ⟨f0.toArray⟩) (.string ⟨#[49]⟩) 23
  rw [hU]; clear hU
  replace rx0 := fun v (h : Below U6.heap.size U6 v) => rx0 v (Below.more bU h)
  replace rx1 := fun v (h : Below U6.heap.size U6 v) => rx1 v (Below.more bU h)
  replace rs0 := fun v (h : Below U6.heap.size U6 v) => rs0 v (Below.more bU h)
  replace rs1 := fun v (h : Below U6.heap.size U6 v) => rs1 v (Below.more bU h)
  replace BW := Below.more BW bU
  replace HT := Lib.hid (HT.out.below bU)
  clear bU
  have b6 := Below.refl U6.heap.size U6
  obtain ⟨U7, hU, bU, s7, rh0, rh1⟩ := lay b6 (.string ⟨f1.toArray⟩) (.string ⟨#[49]⟩) 23
  rw [hU]; clear hU
  rw [← s6] at rh0 rh1
  clear s7
  replace rx0 := fun v (h : Below U7.heap.size U7 v) => rx0 v (Below.more bU h)
  replace rx1 := fun v (h : Below U7.heap.size U7 v) => rx1 v (Below.more bU h)
  replace rs0 := fun v (h : Below U7.heap.size U7 v) => rs0 v (Below.more bU h)
  replace rs1 := fun v (h : Below U7.heap.size U7 v) => rs1 v (Below.more bU h)
  replace rl0 := fun v (h : Below U7.heap.size U7 v) => rl0 v (Below.more bU h)
  replace rl1 := fun v (h : Below U7.heap.size U7 v) => rl1 v (Below.more bU h)
  replace BW := Below.more BW bU
  replace HT := Lib.hid (HT.out.below bU)
  clear bU
  have b7 := Below.refl U7.heap.size U7
  clear s6 ba bb
  have hB := Lib.hid (Nat.le_refl U7.heap.size)
  first | (go_region_held3 (fun w' => Below U7.heap.size U7 w')
      (first | (exact b7.drew) | (with_reducible assumption) | (exact Below.alloc (by with_reducible assumption) (Nat.le_trans hB.out (Below.size (by with_reducible assumption))) _) | (exact put2 (by with_reducible assumption) (Nat.le_refl _) _ _) | (exact put2 (by with_reducible assumption) hB.out _ _) | (exact put2 (by with_reducible assumption) (Nat.le_trans hB.out (Below.size (by with_reducible assumption))) _ _))
      (first | (go_at_call 18; (with_reducible show Calls _ _ #[.agg #[.string ⟨x1.toArray⟩, .string ⟨x2.toArray⟩], .agg #[.string ⟨f0.toArray⟩, .string ⟨#[49]⟩]] _ _); (with_reducible refine (held (W := U7) hB.out (C1.out _) (by assumption)).mono ?_); rintro e w'' ⟨rfl, hb, hw⟩; (first | (have hz := zc_made0 hb) | (have hz := zc_made hb) | skip); (try have hz := Zc.below (by assumption) hb); (try (have z0 := hz.c0; have z1 := hz.c1; have z2 := hz.f0; have z3 := hz.f1))) | (go_at_call 18; (with_reducible show Calls _ _ #[.agg #[.string ⟨f1.toArray⟩, .string ⟨#[49]⟩], .agg #[.string ⟨x1.toArray⟩, .string ⟨x2.toArray⟩]] _ _); (with_reducible refine (held (W := U7) hB.out (C2.out _) (by assumption)).mono ?_); rintro e w'' ⟨rfl, hb, hw⟩; (first | (have hz := zc_made0 hb) | (have hz := zc_made hb) | skip); (try have hz := Zc.below (by assumption) hb); (try (have z0 := hz.c0; have z1 := hz.c1; have z2 := hz.f0; have z3 := hz.f1))) | (go_at_call 21; (with_reducible refine (held (W := U7) hB.out (CC.out _) (by assumption)).mono ?_); rintro e w'' ⟨rfl, hb, hw⟩; (first | (have hz := zc_made0 hb) | (have hz := zc_made hb) | skip); (try have hz := Zc.below (by assumption) hb); (try (have z0 := hz.c0; have z1 := hz.c1; have z2 := hz.f0; have z3 := hz.f1))))) | fail
  rename_i hH
  have b8 := hH
  clear hH hB
  go_wp2_with fail
  refine (CD.out _).mono ?_
  rintro e w9 ⟨rfl, b⟩
  have b9 := Below.more b8 b
  clear b
  go_wp2_with fail
  go_ret
  exact ⟨rfl, Below.more BW b9⟩
set_option maxRecDepth 100000 in
set_option maxHeartbeats 4000000 in
theorem rgw_tneg_b (mode : Int) {x1 x2 : List UInt8} {f0 f1 s1 s2 : List UInt8} (e1 : (f0 == x1) = true) (e2 : (x2 == [49]) = false) (e3 : ([49] == x2) = false) {s : Int} (m : mode = 1) (hs : s < 0) (w : World)
    (CM : Hid (∀ w, Calls Tryz.prog 20 #[.agg #[.string ⟨x1.toArray⟩, .string ⟨x2.toArray⟩]] w (GiveB w true)))
    (CSP : Hid (∀ w, Calls Tryz.prog 31 #[.agg #[.string ⟨x1.toArray⟩, .string ⟨x2.toArray⟩]] w (GiveSR w (f0, (s1, s2)))))
    (CAD : Hid (∀ w, Calls Tryz.prog 32 #[.string ⟨f0.toArray⟩, .string ⟨#[49]⟩] w (GiveS w f1)))
    (CSG : Hid (∀ w, Calls Tryz.prog 16 #[.agg #[.string ⟨x1.toArray⟩, .string ⟨x2.toArray⟩]] w (GiveI w s))) :
    Calls Tryz.prog 10 #[.agg #[.string ⟨x1.toArray⟩, .string ⟨x2.toArray⟩], .int .i64 mode] w (GiveS w f1) := by
  have HT : Hid (NoW w) := Lib.hid (noW w)
  go_enter Tryz.func10, Tryz.ntmps10
  go_wp2_with fail
  have BW := Below.refl w.heap.size w
  have b0 : Below w.heap.size w w := Below.refl _ _
  obtain ⟨U1, hU, bU, s1, rx0, rx1⟩ := lay b0 (.string ⟨x1.toArray⟩) (.string ⟨x2.toArray⟩) 23
  rw [hU]; clear hU
  clear s1
  replace BW := Below.more BW bU
  replace HT := Lib.hid (HT.out.below bU)
  clear bU
  have b1 := Below.refl U1.heap.size U1
  go_wp2_with fail
  refine (CM.out _).mono ?_
  rintro e w2 ⟨rfl, b⟩
  have b2 := Below.more b1 b
  clear b
  go_wp2_with fail
  refine (CSP.out _).mono ?_
  rintro e w3 ⟨rfl, b⟩
  have b3 := Below.more b2 b
  clear b
  have ba := fun x => Below.alloc b3 (Below.size b3) x
  go_wp2_with fail
  obtain ⟨U4, hU, bU, s4, rs0, rs1⟩ := lay b3 (.string ⟨s1.toArray⟩) (.string ⟨s2.toArray⟩) 23
  rw [hU]; clear hU
  clear s4
  replace rx0 := fun v (h : Below U4.heap.size U4 v) => rx0 v (Below.more bU h)
  replace rx1 := fun v (h : Below U4.heap.size U4 v) => rx1 v (Below.more bU h)
  replace BW := Below.more BW bU
  replace HT := Lib.hid (HT.out.below bU)
  clear bU
  have b4 := Below.refl U4.heap.size U4
  clear ba
  refine (CAD.out _).mono ?_
  rintro e w5 ⟨rfl, b⟩
  have b5 := Below.more b4 b
  clear b
  have ba := fun x => Below.alloc b5 (Below.size b5) x
  have bb := fun x y => Below.alloc (ba x) (Below.size (ba x)) y
  go_wp2_with fail
  obtain ⟨U6, hU, bU, s6, rl0, rl1⟩ := lay b5 (.string ⟨f0.toArray⟩) (.string ⟨#[49]⟩) 23
  rw [hU]; clear hU
  replace rx0 := fun v (h : Below U6.heap.size U6 v) => rx0 v (Below.more bU h)
  replace rx1 := fun v (h : Below U6.heap.size U6 v) => rx1 v (Below.more bU h)
  replace rs0 := fun v (h : Below U6.heap.size U6 v) => rs0 v (Below.more bU h)
  replace rs1 := fun v (h : Below U6.heap.size U6 v) => rs1 v (Below.more bU h)
  replace BW := Below.more BW bU
  replace HT := Lib.hid (HT.out.below bU)
  clear bU
  have b6 := Below.refl U6.heap.size U6
  obtain ⟨U7, hU, bU, s7, rh0, rh1⟩ := lay b6 (.string ⟨f1.toArray⟩) (.string ⟨#[49]⟩) 23
  rw [hU]; clear hU
  rw [← s6] at rh0 rh1
  clear s7
  replace rx0 := fun v (h : Below U7.heap.size U7 v) => rx0 v (Below.more bU h)
  replace rx1 := fun v (h : Below U7.heap.size U7 v) => rx1 v (Below.more bU h)
  replace rs0 := fun v (h : Below U7.heap.size U7 v) => rs0 v (Below.more bU h)
  replace rs1 := fun v (h : Below U7.heap.size U7 v) => rs1 v (Below.more bU h)
  replace rl0 := fun v (h : Below U7.heap.size U7 v) => rl0 v (Below.more bU h)
  replace rl1 := fun v (h : Below U7.heap.size U7 v) => rl1 v (Below.more bU h)
  replace BW := Below.more BW bU
  replace HT := Lib.hid (HT.out.below bU)
  clear bU
  have b7 := Below.refl U7.heap.size U7
  clear s6 ba bb
  refine (CSG.out _).mono ?_
  rintro e w8 ⟨rfl, b⟩
  have b8 := Below.more b7 b
  clear b
  go_wp2_with fail
  go_ret
  exact ⟨rfl, Below.more BW b8⟩
set_option maxRecDepth 100000 in
set_option maxHeartbeats 4000000 in
theorem rgw_tpos_b (mode : Int) {x1 x2 : List UInt8} {f0 f1 s1 s2 : List UInt8} (e1 : (f0 == x1) = true) (e2 : (x2 == [49]) = false) (e3 : ([49] == x2) = false) {s : Int} (m : mode = 1) (hs : ¬ s < 0) (w : World)
    (CM : Hid (∀ w, Calls Tryz.prog 20 #[.agg #[.string ⟨x1.toArray⟩, .string ⟨x2.toArray⟩]] w (GiveB w true)))
    (CSP : Hid (∀ w, Calls Tryz.prog 31 #[.agg #[.string ⟨x1.toArray⟩, .string ⟨x2.toArray⟩]] w (GiveSR w (f0, (s1, s2)))))
    (CAD : Hid (∀ w, Calls Tryz.prog 32 #[.string ⟨f0.toArray⟩, .string ⟨#[49]⟩] w (GiveS w f1)))
    (CSG : Hid (∀ w, Calls Tryz.prog 16 #[.agg #[.string ⟨x1.toArray⟩, .string ⟨x2.toArray⟩]] w (GiveI w s))) :
    Calls Tryz.prog 10 #[.agg #[.string ⟨x1.toArray⟩, .string ⟨x2.toArray⟩], .int .i64 mode] w (GiveS w f0) := by
  have HT : Hid (NoW w) := Lib.hid (noW w)
  go_enter Tryz.func10, Tryz.ntmps10
  go_wp2_with fail
  have BW := Below.refl w.heap.size w
  have b0 : Below w.heap.size w w := Below.refl _ _
  obtain ⟨U1, hU, bU, s1, rx0, rx1⟩ := lay b0 (.string ⟨x1.toArray⟩) (.string ⟨x2.toArray⟩) 23
  rw [hU]; clear hU
  clear s1
  replace BW := Below.more BW bU
  replace HT := Lib.hid (HT.out.below bU)
  clear bU
  have b1 := Below.refl U1.heap.size U1
  go_wp2_with fail
  refine (CM.out _).mono ?_
  rintro e w2 ⟨rfl, b⟩
  have b2 := Below.more b1 b
  clear b
  go_wp2_with fail
  refine (CSP.out _).mono ?_
  rintro e w3 ⟨rfl, b⟩
  have b3 := Below.more b2 b
  clear b
  have ba := fun x => Below.alloc b3 (Below.size b3) x
  go_wp2_with fail
  obtain ⟨U4, hU, bU, s4, rs0, rs1⟩ := lay b3 (.string ⟨s1.toArray⟩) (.string ⟨s2.toArray⟩) 23
  rw [hU]; clear hU
  clear s4
  replace rx0 := fun v (h : Below U4.heap.size U4 v) => rx0 v (Below.more bU h)
  replace rx1 := fun v (h : Below U4.heap.size U4 v) => rx1 v (Below.more bU h)
  replace BW := Below.more BW bU
  replace HT := Lib.hid (HT.out.below bU)
  clear bU
  have b4 := Below.refl U4.heap.size U4
  clear ba
  refine (CAD.out _).mono ?_
  rintro e w5 ⟨rfl, b⟩
  have b5 := Below.more b4 b
  clear b
  have ba := fun x => Below.alloc b5 (Below.size b5) x
  have bb := fun x y => Below.alloc (ba x) (Below.size (ba x)) y
  go_wp2_with fail
  obtain ⟨U6, hU, bU, s6, rl0, rl1⟩ := lay b5 (.string ⟨f0.toArray⟩) (.string ⟨#[49]⟩) 23
  rw [hU]; clear hU
  replace rx0 := fun v (h : Below U6.heap.size U6 v) => rx0 v (Below.more bU h)
  replace rx1 := fun v (h : Below U6.heap.size U6 v) => rx1 v (Below.more bU h)
  replace rs0 := fun v (h : Below U6.heap.size U6 v) => rs0 v (Below.more bU h)
  replace rs1 := fun v (h : Below U6.heap.size U6 v) => rs1 v (Below.more bU h)
  replace BW := Below.more BW bU
  replace HT := Lib.hid (HT.out.below bU)
  clear bU
  have b6 := Below.refl U6.heap.size U6
  obtain ⟨U7, hU, bU, s7, rh0, rh1⟩ := lay b6 (.string ⟨f1.toArray⟩) (.string ⟨#[49]⟩) 23
  rw [hU]; clear hU
  rw [← s6] at rh0 rh1
  clear s7
  replace rx0 := fun v (h : Below U7.heap.size U7 v) => rx0 v (Below.more bU h)
  replace rx1 := fun v (h : Below U7.heap.size U7 v) => rx1 v (Below.more bU h)
  replace rs0 := fun v (h : Below U7.heap.size U7 v) => rs0 v (Below.more bU h)
  replace rs1 := fun v (h : Below U7.heap.size U7 v) => rs1 v (Below.more bU h)
  replace rl0 := fun v (h : Below U7.heap.size U7 v) => rl0 v (Below.more bU h)
  replace rl1 := fun v (h : Below U7.heap.size U7 v) => rl1 v (Below.more bU h)
  replace BW := Below.more BW bU
  replace HT := Lib.hid (HT.out.below bU)
  clear bU
  have b7 := Below.refl U7.heap.size U7
  clear s6 ba bb
  refine (CSG.out _).mono ?_
  rintro e w8 ⟨rfl, b⟩
  have b8 := Below.more b7 b
  clear b
  go_wp2_with fail
  go_ret
  exact ⟨rfl, Below.more BW b8⟩
set_option maxRecDepth 100000 in
set_option maxHeartbeats 4000000 in
theorem rgw_lt_b (mode : Int) {x1 x2 : List UInt8} {f0 f1 s1 s2 : List UInt8} (e1 : (f0 == x1) = true) (e2 : (x2 == [49]) = false) (e3 : ([49] == x2) = false) {u1 u2 v1 v2 q r : List UInt8} {c : Int} (m : mode = 2) (hc : c < 0) (w : World)
    (CM : Hid (∀ w, Calls Tryz.prog 20 #[.agg #[.string ⟨x1.toArray⟩, .string ⟨x2.toArray⟩]] w (GiveB w true)))
    (CSP : Hid (∀ w, Calls Tryz.prog 31 #[.agg #[.string ⟨x1.toArray⟩, .string ⟨x2.toArray⟩]] w (GiveSR w (f0, (s1, s2)))))
    (CAD : Hid (∀ w, Calls Tryz.prog 32 #[.string ⟨f0.toArray⟩, .string ⟨#[49]⟩] w (GiveS w f1)))
    (C1 : Hid (∀ w, Calls Tryz.prog 18 #[.agg #[.string ⟨x1.toArray⟩, .string ⟨x2.toArray⟩], .agg #[.string ⟨f0.toArray⟩, .string ⟨#[49]⟩]] w (GiveR w (u1, u2))))
    (C2 : Hid (∀ w, Calls Tryz.prog 18 #[.agg #[.string ⟨f1.toArray⟩, .string ⟨#[49]⟩], .agg #[.string ⟨x1.toArray⟩, .string ⟨x2.toArray⟩]] w (GiveR w (v1, v2))))
    (CC : Hid (∀ w, Calls Tryz.prog 21 #[.agg #[.string ⟨u1.toArray⟩, .string ⟨u2.toArray⟩], .agg #[.string ⟨v1.toArray⟩, .string ⟨v2.toArray⟩]] w (GiveI w c)))
    (CD : Hid (∀ w, Calls Tryz.prog 33 #[.string ⟨f0.toArray⟩, .string ⟨#[50]⟩] w (GiveSSB w (q, r, true)))) :
    Calls Tryz.prog 10 #[.agg #[.string ⟨x1.toArray⟩, .string ⟨x2.toArray⟩], .int .i64 mode] w (GiveS w f0) := by
  have HT : Hid (NoW w) := Lib.hid (noW w)
  go_enter Tryz.func10, Tryz.ntmps10
  go_wp2_with fail
  have BW := Below.refl w.heap.size w
  have b0 : Below w.heap.size w w := Below.refl _ _
  obtain ⟨U1, hU, bU, s1, rx0, rx1⟩ := lay b0 (.string ⟨x1.toArray⟩) (.string ⟨x2.toArray⟩) 23
  rw [hU]; clear hU
  clear s1
  replace BW := Below.more BW bU
  replace HT := Lib.hid (HT.out.below bU)
  clear bU
  have b1 := Below.refl U1.heap.size U1
  go_wp2_with fail
  refine (CM.out _).mono ?_
  rintro e w2 ⟨rfl, b⟩
  have b2 := Below.more b1 b
  clear b
  go_wp2_with fail
  refine (CSP.out _).mono ?_
  rintro e w3 ⟨rfl, b⟩
  have b3 := Below.more b2 b
  clear b
  have ba := fun x => Below.alloc b3 (Below.size b3) x
  go_wp2_with fail
  obtain ⟨U4, hU, bU, s4, rs0, rs1⟩ := lay b3 (.string ⟨s1.toArray⟩) (.string ⟨s2.toArray⟩) 23
  rw [hU]; clear hU
  clear s4
  replace rx0 := fun v (h : Below U4.heap.size U4 v) => rx0 v (Below.more bU h)
  replace rx1 := fun v (h : Below U4.heap.size U4 v) => rx1 v (Below.more bU h)
  replace BW := Below.more BW bU
  replace HT := Lib.hid (HT.out.below bU)
  clear bU
  have b4 := Below.refl U4.heap.size U4
  clear ba
  refine (CAD.out _).mono ?_
  rintro e w5 ⟨rfl, b⟩
  have b5 := Below.more b4 b
  clear b
  have ba := fun x => Below.alloc b5 (Below.size b5) x
  have bb := fun x y => Below.alloc (ba x) (Below.size (ba x)) y
  go_wp2_with fail
  obtain ⟨U6, hU, bU, s6, rl0, rl1⟩ := lay b5 (.string ⟨f0.toArray⟩) (.string ⟨#[49]⟩) 23
  rw [hU]; clear hU
  replace rx0 := fun v (h : Below U6.heap.size U6 v) => rx0 v (Below.more bU h)
  replace rx1 := fun v (h : Below U6.heap.size U6 v) => rx1 v (Below.more bU h)
  replace rs0 := fun v (h : Below U6.heap.size U6 v) => rs0 v (Below.more bU h)
  replace rs1 := fun v (h : Below U6.heap.size U6 v) => rs1 v (Below.more bU h)
  replace BW := Below.more BW bU
  replace HT := Lib.hid (HT.out.below bU)
  clear bU
  have b6 := Below.refl U6.heap.size U6
  obtain ⟨U7, hU, bU, s7, rh0, rh1⟩ := lay b6 (.string ⟨f1.toArray⟩) (.string ⟨#[49]⟩) 23
  rw [hU]; clear hU
  rw [← s6] at rh0 rh1
  clear s7
  replace rx0 := fun v (h : Below U7.heap.size U7 v) => rx0 v (Below.more bU h)
  replace rx1 := fun v (h : Below U7.heap.size U7 v) => rx1 v (Below.more bU h)
  replace rs0 := fun v (h : Below U7.heap.size U7 v) => rs0 v (Below.more bU h)
  replace rs1 := fun v (h : Below U7.heap.size U7 v) => rs1 v (Below.more bU h)
  replace rl0 := fun v (h : Below U7.heap.size U7 v) => rl0 v (Below.more bU h)
  replace rl1 := fun v (h : Below U7.heap.size U7 v) => rl1 v (Below.more bU h)
  replace BW := Below.more BW bU
  replace HT := Lib.hid (HT.out.below bU)
  clear bU
  have b7 := Below.refl U7.heap.size U7
  clear s6 ba bb
  have hB := Lib.hid (Nat.le_refl U7.heap.size)
  first | (go_region_held3 (fun w' => Below U7.heap.size U7 w')
      (first | (exact b7.drew) | (with_reducible assumption) | (exact Below.alloc (by with_reducible assumption) (Nat.le_trans hB.out (Below.size (by with_reducible assumption))) _) | (exact put2 (by with_reducible assumption) (Nat.le_refl _) _ _) | (exact put2 (by with_reducible assumption) hB.out _ _) | (exact put2 (by with_reducible assumption) (Nat.le_trans hB.out (Below.size (by with_reducible assumption))) _ _))
      (first | (go_at_call 18; (with_reducible show Calls _ _ #[.agg #[.string ⟨x1.toArray⟩, .string ⟨x2.toArray⟩], .agg #[.string ⟨f0.toArray⟩, .string ⟨#[49]⟩]] _ _); (with_reducible refine (held (W := U7) hB.out (C1.out _) (by assumption)).mono ?_); rintro e w'' ⟨rfl, hb, hw⟩; (first | (have hz := zc_made0 hb) | (have hz := zc_made hb) | skip); (try have hz := Zc.below (by assumption) hb); (try (have z0 := hz.c0; have z1 := hz.c1; have z2 := hz.f0; have z3 := hz.f1))) | (go_at_call 18; (with_reducible show Calls _ _ #[.agg #[.string ⟨f1.toArray⟩, .string ⟨#[49]⟩], .agg #[.string ⟨x1.toArray⟩, .string ⟨x2.toArray⟩]] _ _); (with_reducible refine (held (W := U7) hB.out (C2.out _) (by assumption)).mono ?_); rintro e w'' ⟨rfl, hb, hw⟩; (first | (have hz := zc_made0 hb) | (have hz := zc_made hb) | skip); (try have hz := Zc.below (by assumption) hb); (try (have z0 := hz.c0; have z1 := hz.c1; have z2 := hz.f0; have z3 := hz.f1))) | (go_at_call 21; (with_reducible refine (held (W := U7) hB.out (CC.out _) (by assumption)).mono ?_); rintro e w'' ⟨rfl, hb, hw⟩; (first | (have hz := zc_made0 hb) | (have hz := zc_made hb) | skip); (try have hz := Zc.below (by assumption) hb); (try (have z0 := hz.c0; have z1 := hz.c1; have z2 := hz.f0; have z3 := hz.f1))))) | fail
  rename_i hH
  have b8 := hH
  clear hH hB
  go_wp2_with fail
  refine (CD.out _).mono ?_
  rintro e w9 ⟨rfl, b⟩
  have b9 := Below.more b8 b
  clear b
  go_wp2_with fail
  go_ret
  exact ⟨rfl, Below.more BW b9⟩
set_option maxRecDepth 100000 in
set_option maxHeartbeats 4000000 in
theorem rgw_even_b (mode : Int) {x1 x2 : List UInt8} {f0 f1 s1 s2 : List UInt8} (e1 : (f0 == x1) = true) (e2 : (x2 == [49]) = false) (e3 : ([49] == x2) = false) {u1 u2 v1 v2 q r : List UInt8} {c : Int} (m : mode = 2) (hc : c = 0) (hr : (r == [48]) = true) (w : World)
    (CM : Hid (∀ w, Calls Tryz.prog 20 #[.agg #[.string ⟨x1.toArray⟩, .string ⟨x2.toArray⟩]] w (GiveB w true)))
    (CSP : Hid (∀ w, Calls Tryz.prog 31 #[.agg #[.string ⟨x1.toArray⟩, .string ⟨x2.toArray⟩]] w (GiveSR w (f0, (s1, s2)))))
    (CAD : Hid (∀ w, Calls Tryz.prog 32 #[.string ⟨f0.toArray⟩, .string ⟨#[49]⟩] w (GiveS w f1)))
    (C1 : Hid (∀ w, Calls Tryz.prog 18 #[.agg #[.string ⟨x1.toArray⟩, .string ⟨x2.toArray⟩], .agg #[.string ⟨f0.toArray⟩, .string ⟨#[49]⟩]] w (GiveR w (u1, u2))))
    (C2 : Hid (∀ w, Calls Tryz.prog 18 #[.agg #[.string ⟨f1.toArray⟩, .string ⟨#[49]⟩], .agg #[.string ⟨x1.toArray⟩, .string ⟨x2.toArray⟩]] w (GiveR w (v1, v2))))
    (CC : Hid (∀ w, Calls Tryz.prog 21 #[.agg #[.string ⟨u1.toArray⟩, .string ⟨u2.toArray⟩], .agg #[.string ⟨v1.toArray⟩, .string ⟨v2.toArray⟩]] w (GiveI w c)))
    (CD : Hid (∀ w, Calls Tryz.prog 33 #[.string ⟨f0.toArray⟩, .string ⟨#[50]⟩] w (GiveSSB w (q, r, true)))) :
    Calls Tryz.prog 10 #[.agg #[.string ⟨x1.toArray⟩, .string ⟨x2.toArray⟩], .int .i64 mode] w (GiveS w f0) := by
  have HT : Hid (NoW w) := Lib.hid (noW w)
  go_enter Tryz.func10, Tryz.ntmps10
  go_wp2_with fail
  have BW := Below.refl w.heap.size w
  have b0 : Below w.heap.size w w := Below.refl _ _
  obtain ⟨U1, hU, bU, s1, rx0, rx1⟩ := lay b0 (.string ⟨x1.toArray⟩) (.string ⟨x2.toArray⟩) 23
  rw [hU]; clear hU
  clear s1
  replace BW := Below.more BW bU
  replace HT := Lib.hid (HT.out.below bU)
  clear bU
  have b1 := Below.refl U1.heap.size U1
  go_wp2_with fail
  refine (CM.out _).mono ?_
  rintro e w2 ⟨rfl, b⟩
  have b2 := Below.more b1 b
  clear b
  go_wp2_with fail
  refine (CSP.out _).mono ?_
  rintro e w3 ⟨rfl, b⟩
  have b3 := Below.more b2 b
  clear b
  have ba := fun x => Below.alloc b3 (Below.size b3) x
  go_wp2_with fail
  obtain ⟨U4, hU, bU, s4, rs0, rs1⟩ := lay b3 (.string ⟨s1.toArray⟩) (.string ⟨s2.toArray⟩) 23
  rw [hU]; clear hU
  clear s4
  replace rx0 := fun v (h : Below U4.heap.size U4 v) => rx0 v (Below.more bU h)
  replace rx1 := fun v (h : Below U4.heap.size U4 v) => rx1 v (Below.more bU h)
  replace BW := Below.more BW bU
  replace HT := Lib.hid (HT.out.below bU)
  clear bU
  have b4 := Below.refl U4.heap.size U4
  clear ba
  refine (CAD.out _).mono ?_
  rintro e w5 ⟨rfl, b⟩
  have b5 := Below.more b4 b
  clear b
  have ba := fun x => Below.alloc b5 (Below.size b5) x
  have bb := fun x y => Below.alloc (ba x) (Below.size (ba x)) y
  go_wp2_with fail
  obtain ⟨U6, hU, bU, s6, rl0, rl1⟩ := lay b5 (.string ⟨f0.toArray⟩) (.string ⟨#[49]⟩) 23
  rw [hU]; clear hU
  replace rx0 := fun v (h : Below U6.heap.size U6 v) => rx0 v (Below.more bU h)
  replace rx1 := fun v (h : Below U6.heap.size U6 v) => rx1 v (Below.more bU h)
  replace rs0 := fun v (h : Below U6.heap.size U6 v) => rs0 v (Below.more bU h)
  replace rs1 := fun v (h : Below U6.heap.size U6 v) => rs1 v (Below.more bU h)
  replace BW := Below.more BW bU
  replace HT := Lib.hid (HT.out.below bU)
  clear bU
  have b6 := Below.refl U6.heap.size U6
  obtain ⟨U7, hU, bU, s7, rh0, rh1⟩ := lay b6 (.string ⟨f1.toArray⟩) (.string ⟨#[49]⟩) 23
  rw [hU]; clear hU
  rw [← s6] at rh0 rh1
  clear s7
  replace rx0 := fun v (h : Below U7.heap.size U7 v) => rx0 v (Below.more bU h)
  replace rx1 := fun v (h : Below U7.heap.size U7 v) => rx1 v (Below.more bU h)
  replace rs0 := fun v (h : Below U7.heap.size U7 v) => rs0 v (Below.more bU h)
  replace rs1 := fun v (h : Below U7.heap.size U7 v) => rs1 v (Below.more bU h)
  replace rl0 := fun v (h : Below U7.heap.size U7 v) => rl0 v (Below.more bU h)
  replace rl1 := fun v (h : Below U7.heap.size U7 v) => rl1 v (Below.more bU h)
  replace BW := Below.more BW bU
  replace HT := Lib.hid (HT.out.below bU)
  clear bU
  have b7 := Below.refl U7.heap.size U7
  clear s6 ba bb
  have hB := Lib.hid (Nat.le_refl U7.heap.size)
  first | (go_region_held3 (fun w' => Below U7.heap.size U7 w')
      (first | (exact b7.drew) | (with_reducible assumption) | (exact Below.alloc (by with_reducible assumption) (Nat.le_trans hB.out (Below.size (by with_reducible assumption))) _) | (exact put2 (by with_reducible assumption) (Nat.le_refl _) _ _) | (exact put2 (by with_reducible assumption) hB.out _ _) | (exact put2 (by with_reducible assumption) (Nat.le_trans hB.out (Below.size (by with_reducible assumption))) _ _))
      (first | (go_at_call 18; (with_reducible show Calls _ _ #[.agg #[.string ⟨x1.toArray⟩, .string ⟨x2.toArray⟩], .agg #[.string ⟨f0.toArray⟩, .string ⟨#[49]⟩]] _ _); (with_reducible refine (held (W := U7) hB.out (C1.out _) (by assumption)).mono ?_); rintro e w'' ⟨rfl, hb, hw⟩; (first | (have hz := zc_made0 hb) | (have hz := zc_made hb) | skip); (try have hz := Zc.below (by assumption) hb); (try (have z0 := hz.c0; have z1 := hz.c1; have z2 := hz.f0; have z3 := hz.f1))) | (go_at_call 18; (with_reducible show Calls _ _ #[.agg #[.string ⟨f1.toArray⟩, .string ⟨#[49]⟩], .agg #[.string ⟨x1.toArray⟩, .string ⟨x2.toArray⟩]] _ _); (with_reducible refine (held (W := U7) hB.out (C2.out _) (by assumption)).mono ?_); rintro e w'' ⟨rfl, hb, hw⟩; (first | (have hz := zc_made0 hb) | (have hz := zc_made hb) | skip); (try have hz := Zc.below (by assumption) hb); (try (have z0 := hz.c0; have z1 := hz.c1; have z2 := hz.f0; have z3 := hz.f1))) | (go_at_call 21; (with_reducible refine (held (W := U7) hB.out (CC.out _) (by assumption)).mono ?_); rintro e w'' ⟨rfl, hb, hw⟩; (first | (have hz := zc_made0 hb) | (have hz := zc_made hb) | skip); (try have hz := Zc.below (by assumption) hb); (try (have z0 := hz.c0; have z1 := hz.c1; have z2 := hz.f0; have z3 := hz.f1))))) | fail
  rename_i hH
  have b8 := hH
  clear hH hB
  go_wp2_with fail
  refine (CD.out _).mono ?_
  rintro e w9 ⟨rfl, b⟩
  have b9 := Below.more b8 b
  clear b
  go_wp2_with fail
  go_ret
  exact ⟨rfl, Below.more BW b9⟩
set_option maxRecDepth 100000 in
set_option maxHeartbeats 4000000 in
theorem rgw_odd_b (mode : Int) {x1 x2 : List UInt8} {f0 f1 s1 s2 : List UInt8} (e1 : (f0 == x1) = true) (e2 : (x2 == [49]) = false) (e3 : ([49] == x2) = false) {u1 u2 v1 v2 q r : List UInt8} {c : Int} (m : mode = 2) (hc : c = 0) (hr : (r == [48]) = false) (w : World)
    (CM : Hid (∀ w, Calls Tryz.prog 20 #[.agg #[.string ⟨x1.toArray⟩, .string ⟨x2.toArray⟩]] w (GiveB w true)))
    (CSP : Hid (∀ w, Calls Tryz.prog 31 #[.agg #[.string ⟨x1.toArray⟩, .string ⟨x2.toArray⟩]] w (GiveSR w (f0, (s1, s2)))))
    (CAD : Hid (∀ w, Calls Tryz.prog 32 #[.string ⟨f0.toArray⟩, .string ⟨#[49]⟩] w (GiveS w f1)))
    (C1 : Hid (∀ w, Calls Tryz.prog 18 #[.agg #[.string ⟨x1.toArray⟩, .string ⟨x2.toArray⟩], .agg #[.string ⟨f0.toArray⟩, .string ⟨#[49]⟩]] w (GiveR w (u1, u2))))
    (C2 : Hid (∀ w, Calls Tryz.prog 18 #[.agg #[.string ⟨f1.toArray⟩, .string ⟨#[49]⟩], .agg #[.string ⟨x1.toArray⟩, .string ⟨x2.toArray⟩]] w (GiveR w (v1, v2))))
    (CC : Hid (∀ w, Calls Tryz.prog 21 #[.agg #[.string ⟨u1.toArray⟩, .string ⟨u2.toArray⟩], .agg #[.string ⟨v1.toArray⟩, .string ⟨v2.toArray⟩]] w (GiveI w c)))
    (CD : Hid (∀ w, Calls Tryz.prog 33 #[.string ⟨f0.toArray⟩, .string ⟨#[50]⟩] w (GiveSSB w (q, r, true)))) :
    Calls Tryz.prog 10 #[.agg #[.string ⟨x1.toArray⟩, .string ⟨x2.toArray⟩], .int .i64 mode] w (GiveS w f1) := by
  have HT : Hid (NoW w) := Lib.hid (noW w)
  go_enter Tryz.func10, Tryz.ntmps10
  go_wp2_with fail
  have BW := Below.refl w.heap.size w
  have b0 : Below w.heap.size w w := Below.refl _ _
  obtain ⟨U1, hU, bU, s1, rx0, rx1⟩ := lay b0 (.string ⟨x1.toArray⟩) (.string ⟨x2.toArray⟩) 23
  rw [hU]; clear hU
  clear s1
  replace BW := Below.more BW bU
  replace HT := Lib.hid (HT.out.below bU)
  clear bU
  have b1 := Below.refl U1.heap.size U1
  go_wp2_with fail
  refine (CM.out _).mono ?_
  rintro e w2 ⟨rfl, b⟩
  have b2 := Below.more b1 b
  clear b
  go_wp2_with fail
  refine (CSP.out _).mono ?_
  rintro e w3 ⟨rfl, b⟩
  have b3 := Below.more b2 b
  clear b
  have ba := fun x => Below.alloc b3 (Below.size b3) x
  go_wp2_with fail
  obtain ⟨U4, hU, bU, s4, rs0, rs1⟩ := lay b3 (.string ⟨s1.toArray⟩) (.string ⟨s2.toArray⟩) 23
  rw [hU]; clear hU
  clear s4
  replace rx0 := fun v (h : Below U4.heap.size U4 v) => rx0 v (Below.more bU h)
  replace rx1 := fun v (h : Below U4.heap.size U4 v) => rx1 v (Below.more bU h)
  replace BW := Below.more BW bU
  replace HT := Lib.hid (HT.out.below bU)
  clear bU
  have b4 := Below.refl U4.heap.size U4
  clear ba
  refine (CAD.out _).mono ?_
  rintro e w5 ⟨rfl, b⟩
  have b5 := Below.more b4 b
  clear b
  have ba := fun x => Below.alloc b5 (Below.size b5) x
  have bb := fun x y => Below.alloc (ba x) (Below.size (ba x)) y
  go_wp2_with fail
  obtain ⟨U6, hU, bU, s6, rl0, rl1⟩ := lay b5 (.string ⟨f0.toArray⟩) (.string ⟨#[49]⟩) 23
  rw [hU]; clear hU
  replace rx0 := fun v (h : Below U6.heap.size U6 v) => rx0 v (Below.more bU h)
  replace rx1 := fun v (h : Below U6.heap.size U6 v) => rx1 v (Below.more bU h)
  replace rs0 := fun v (h : Below U6.heap.size U6 v) => rs0 v (Below.more bU h)
  replace rs1 := fun v (h : Below U6.heap.size U6 v) => rs1 v (Below.more bU h)
  replace BW := Below.more BW bU
  replace HT := Lib.hid (HT.out.below bU)
  clear bU
  have b6 := Below.refl U6.heap.size U6
  obtain ⟨U7, hU, bU, s7, rh0, rh1⟩ := lay b6 (.string ⟨f1.toArray⟩) (.string ⟨#[49]⟩) 23
  rw [hU]; clear hU
  rw [← s6] at rh0 rh1
  clear s7
  replace rx0 := fun v (h : Below U7.heap.size U7 v) => rx0 v (Below.more bU h)
  replace rx1 := fun v (h : Below U7.heap.size U7 v) => rx1 v (Below.more bU h)
  replace rs0 := fun v (h : Below U7.heap.size U7 v) => rs0 v (Below.more bU h)
  replace rs1 := fun v (h : Below U7.heap.size U7 v) => rs1 v (Below.more bU h)
  replace rl0 := fun v (h : Below U7.heap.size U7 v) => rl0 v (Below.more bU h)
  replace rl1 := fun v (h : Below U7.heap.size U7 v) => rl1 v (Below.more bU h)
  replace BW := Below.more BW bU
  replace HT := Lib.hid (HT.out.below bU)
  clear bU
  have b7 := Below.refl U7.heap.size U7
  clear s6 ba bb
  have hB := Lib.hid (Nat.le_refl U7.heap.size)
  first | (go_region_held3 (fun w' => Below U7.heap.size U7 w')
      (first | (exact b7.drew) | (with_reducible assumption) | (exact Below.alloc (by with_reducible assumption) (Nat.le_trans hB.out (Below.size (by with_reducible assumption))) _) | (exact put2 (by with_reducible assumption) (Nat.le_refl _) _ _) | (exact put2 (by with_reducible assumption) hB.out _ _) | (exact put2 (by with_reducible assumption) (Nat.le_trans hB.out (Below.size (by with_reducible assumption))) _ _))
      (first | (go_at_call 18; (with_reducible show Calls _ _ #[.agg #[.string ⟨x1.toArray⟩, .string ⟨x2.toArray⟩], .agg #[.string ⟨f0.toArray⟩, .string ⟨#[49]⟩]] _ _); (with_reducible refine (held (W := U7) hB.out (C1.out _) (by assumption)).mono ?_); rintro e w'' ⟨rfl, hb, hw⟩; (first | (have hz := zc_made0 hb) | (have hz := zc_made hb) | skip); (try have hz := Zc.below (by assumption) hb); (try (have z0 := hz.c0; have z1 := hz.c1; have z2 := hz.f0; have z3 := hz.f1))) | (go_at_call 18; (with_reducible show Calls _ _ #[.agg #[.string ⟨f1.toArray⟩, .string ⟨#[49]⟩], .agg #[.string ⟨x1.toArray⟩, .string ⟨x2.toArray⟩]] _ _); (with_reducible refine (held (W := U7) hB.out (C2.out _) (by assumption)).mono ?_); rintro e w'' ⟨rfl, hb, hw⟩; (first | (have hz := zc_made0 hb) | (have hz := zc_made hb) | skip); (try have hz := Zc.below (by assumption) hb); (try (have z0 := hz.c0; have z1 := hz.c1; have z2 := hz.f0; have z3 := hz.f1))) | (go_at_call 21; (with_reducible refine (held (W := U7) hB.out (CC.out _) (by assumption)).mono ?_); rintro e w'' ⟨rfl, hb, hw⟩; (first | (have hz := zc_made0 hb) | (have hz := zc_made hb) | skip); (try have hz := Zc.below (by assumption) hb); (try (have z0 := hz.c0; have z1 := hz.c1; have z2 := hz.f0; have z3 := hz.f1))))) | fail
  rename_i hH
  have b8 := hH
  clear hH hB
  go_wp2_with fail
  refine (CD.out _).mono ?_
  rintro e w9 ⟨rfl, b⟩
  have b9 := Below.more b8 b
  clear b
  go_wp2_with fail
  go_ret
  exact ⟨rfl, Below.more BW b9⟩
set_option maxRecDepth 100000 in
set_option maxHeartbeats 4000000 in
theorem rgw_gt_b (mode : Int) {x1 x2 : List UInt8} {f0 f1 s1 s2 : List UInt8} (e1 : (f0 == x1) = true) (e2 : (x2 == [49]) = false) (e3 : ([49] == x2) = false) {u1 u2 v1 v2 q r : List UInt8} {c : Int} (m : mode = 2) (hc : ¬ c < 0) (hc2 : ¬ c = 0) (w : World)
    (CM : Hid (∀ w, Calls Tryz.prog 20 #[.agg #[.string ⟨x1.toArray⟩, .string ⟨x2.toArray⟩]] w (GiveB w true)))
    (CSP : Hid (∀ w, Calls Tryz.prog 31 #[.agg #[.string ⟨x1.toArray⟩, .string ⟨x2.toArray⟩]] w (GiveSR w (f0, (s1, s2)))))
    (CAD : Hid (∀ w, Calls Tryz.prog 32 #[.string ⟨f0.toArray⟩, .string ⟨#[49]⟩] w (GiveS w f1)))
    (C1 : Hid (∀ w, Calls Tryz.prog 18 #[.agg #[.string ⟨x1.toArray⟩, .string ⟨x2.toArray⟩], .agg #[.string ⟨f0.toArray⟩, .string ⟨#[49]⟩]] w (GiveR w (u1, u2))))
    (C2 : Hid (∀ w, Calls Tryz.prog 18 #[.agg #[.string ⟨f1.toArray⟩, .string ⟨#[49]⟩], .agg #[.string ⟨x1.toArray⟩, .string ⟨x2.toArray⟩]] w (GiveR w (v1, v2))))
    (CC : Hid (∀ w, Calls Tryz.prog 21 #[.agg #[.string ⟨u1.toArray⟩, .string ⟨u2.toArray⟩], .agg #[.string ⟨v1.toArray⟩, .string ⟨v2.toArray⟩]] w (GiveI w c)))
    (CD : Hid (∀ w, Calls Tryz.prog 33 #[.string ⟨f0.toArray⟩, .string ⟨#[50]⟩] w (GiveSSB w (q, r, true)))) :
    Calls Tryz.prog 10 #[.agg #[.string ⟨x1.toArray⟩, .string ⟨x2.toArray⟩], .int .i64 mode] w (GiveS w f1) := by
  have HT : Hid (NoW w) := Lib.hid (noW w)
  go_enter Tryz.func10, Tryz.ntmps10
  go_wp2_with fail
  have BW := Below.refl w.heap.size w
  have b0 : Below w.heap.size w w := Below.refl _ _
  obtain ⟨U1, hU, bU, s1, rx0, rx1⟩ := lay b0 (.string ⟨x1.toArray⟩) (.string ⟨x2.toArray⟩) 23
  rw [hU]; clear hU
  clear s1
  replace BW := Below.more BW bU
  replace HT := Lib.hid (HT.out.below bU)
  clear bU
  have b1 := Below.refl U1.heap.size U1
  go_wp2_with fail
  refine (CM.out _).mono ?_
  rintro e w2 ⟨rfl, b⟩
  have b2 := Below.more b1 b
  clear b
  go_wp2_with fail
  refine (CSP.out _).mono ?_
  rintro e w3 ⟨rfl, b⟩
  have b3 := Below.more b2 b
  clear b
  have ba := fun x => Below.alloc b3 (Below.size b3) x
  go_wp2_with fail
  obtain ⟨U4, hU, bU, s4, rs0, rs1⟩ := lay b3 (.string ⟨s1.toArray⟩) (.string ⟨s2.toArray⟩) 23
  rw [hU]; clear hU
  clear s4
  replace rx0 := fun v (h : Below U4.heap.size U4 v) => rx0 v (Below.more bU h)
  replace rx1 := fun v (h : Below U4.heap.size U4 v) => rx1 v (Below.more bU h)
  replace BW := Below.more BW bU
  replace HT := Lib.hid (HT.out.below bU)
  clear bU
  have b4 := Below.refl U4.heap.size U4
  clear ba
  refine (CAD.out _).mono ?_
  rintro e w5 ⟨rfl, b⟩
  have b5 := Below.more b4 b
  clear b
  have ba := fun x => Below.alloc b5 (Below.size b5) x
  have bb := fun x y => Below.alloc (ba x) (Below.size (ba x)) y
  go_wp2_with fail
  obtain ⟨U6, hU, bU, s6, rl0, rl1⟩ := lay b5 (.string ⟨f0.toArray⟩) (.string ⟨#[49]⟩) 23
  rw [hU]; clear hU
  replace rx0 := fun v (h : Below U6.heap.size U6 v) => rx0 v (Below.more bU h)
  replace rx1 := fun v (h : Below U6.heap.size U6 v) => rx1 v (Below.more bU h)
  replace rs0 := fun v (h : Below U6.heap.size U6 v) => rs0 v (Below.more bU h)
  replace rs1 := fun v (h : Below U6.heap.size U6 v) => rs1 v (Below.more bU h)
  replace BW := Below.more BW bU
  replace HT := Lib.hid (HT.out.below bU)
  clear bU
  have b6 := Below.refl U6.heap.size U6
  obtain ⟨U7, hU, bU, s7, rh0, rh1⟩ := lay b6 (.string ⟨f1.toArray⟩) (.string ⟨#[49]⟩) 23
  rw [hU]; clear hU
  rw [← s6] at rh0 rh1
  clear s7
  replace rx0 := fun v (h : Below U7.heap.size U7 v) => rx0 v (Below.more bU h)
  replace rx1 := fun v (h : Below U7.heap.size U7 v) => rx1 v (Below.more bU h)
  replace rs0 := fun v (h : Below U7.heap.size U7 v) => rs0 v (Below.more bU h)
  replace rs1 := fun v (h : Below U7.heap.size U7 v) => rs1 v (Below.more bU h)
  replace rl0 := fun v (h : Below U7.heap.size U7 v) => rl0 v (Below.more bU h)
  replace rl1 := fun v (h : Below U7.heap.size U7 v) => rl1 v (Below.more bU h)
  replace BW := Below.more BW bU
  replace HT := Lib.hid (HT.out.below bU)
  clear bU
  have b7 := Below.refl U7.heap.size U7
  clear s6 ba bb
  have hB := Lib.hid (Nat.le_refl U7.heap.size)
  first | (go_region_held3 (fun w' => Below U7.heap.size U7 w')
      (first | (exact b7.drew) | (with_reducible assumption) | (exact Below.alloc (by with_reducible assumption) (Nat.le_trans hB.out (Below.size (by with_reducible assumption))) _) | (exact put2 (by with_reducible assumption) (Nat.le_refl _) _ _) | (exact put2 (by with_reducible assumption) hB.out _ _) | (exact put2 (by with_reducible assumption) (Nat.le_trans hB.out (Below.size (by with_reducible assumption))) _ _))
      (first | (go_at_call 18; (with_reducible show Calls _ _ #[.agg #[.string ⟨x1.toArray⟩, .string ⟨x2.toArray⟩], .agg #[.string ⟨f0.toArray⟩, .string ⟨#[49]⟩]] _ _); (with_reducible refine (held (W := U7) hB.out (C1.out _) (by assumption)).mono ?_); rintro e w'' ⟨rfl, hb, hw⟩; (first | (have hz := zc_made0 hb) | (have hz := zc_made hb) | skip); (try have hz := Zc.below (by assumption) hb); (try (have z0 := hz.c0; have z1 := hz.c1; have z2 := hz.f0; have z3 := hz.f1))) | (go_at_call 18; (with_reducible show Calls _ _ #[.agg #[.string ⟨f1.toArray⟩, .string ⟨#[49]⟩], .agg #[.string ⟨x1.toArray⟩, .string ⟨x2.toArray⟩]] _ _); (with_reducible refine (held (W := U7) hB.out (C2.out _) (by assumption)).mono ?_); rintro e w'' ⟨rfl, hb, hw⟩; (first | (have hz := zc_made0 hb) | (have hz := zc_made hb) | skip); (try have hz := Zc.below (by assumption) hb); (try (have z0 := hz.c0; have z1 := hz.c1; have z2 := hz.f0; have z3 := hz.f1))) | (go_at_call 21; (with_reducible refine (held (W := U7) hB.out (CC.out _) (by assumption)).mono ?_); rintro e w'' ⟨rfl, hb, hw⟩; (first | (have hz := zc_made0 hb) | (have hz := zc_made hb) | skip); (try have hz := Zc.below (by assumption) hb); (try (have z0 := hz.c0; have z1 := hz.c1; have z2 := hz.f0; have z3 := hz.f1))))) | fail
  rename_i hH
  have b8 := hH
  clear hH hB
  go_wp2_with fail
  refine (CD.out _).mono ?_
  rintro e w9 ⟨rfl, b⟩
  have b9 := Below.more b8 b
  clear b
  go_wp2_with fail
  go_ret
  exact ⟨rfl, Below.more BW b9⟩
theorem sgn_lt_zero {q : Rat} : sgnQ q < 0 ↔ q < 0 := by
  rcases rat_cases q with h | h | h
  · rw [sgnQ_neg h]; exact ⟨fun _ => h, fun _ => by decide⟩
  · subst h; exact ⟨fun k => absurd k (by decide), fun k => absurd k (Rat.lt_irrefl)⟩
  · rw [sgnQ_pos h]; exact ⟨fun k => absurd k (by decide), fun k => absurd (Rat.le_of_lt h) (Rat.not_le.2 k)⟩
theorem ne_ways {x : Rat} {n : Int} (h : (n : Rat) ≠ x) : ((wd n == rdN x) = false ∧ (rdN x == wd n) = false) ∨ ((wd n == rdN x) = true ∧ (rdD x == [49]) = false ∧ ([49] == rdD x) = false) := by
  cases e : (wd n == rdN x) with
  | false => exact .inl ⟨rfl, by rw [BEq.comm]; exact e⟩
  | true =>
    refine .inr ⟨rfl, ?_, ?_⟩
    all_goals
      refine beq_false_of_ne fun k => h (rd_inj ?_)
      have k : rdD x = [49] := by first | exact k | exact k.symm
      exact Prod.ext ((rdN_int n).trans (eq_of_beq e)) ((rdD_int n).trans k.symm)
theorem wd_odd (n : Int) : (wd (n % 2) == [48]) = decide (n % 2 = 0) := by
  have h : n % 2 = 0 ∨ n % 2 = 1 := by omega
  rcases h with h | h <;> rw [h]
  · rw [wd_0]; rfl
  · rw [wd_pos (by decide), show (1 : Int).natAbs = 1 from rfl, dig_1]; rfl
theorem rgwhole_q {x : Rat} {k : Nat} (lx : Lq x k) (hk : k ≤ 4000) (mode : Int) (w : World) :
    Calls Tryz.prog 10 #[.agg #[.string ⟨(rdN x).toArray⟩, .string ⟨(rdD x).toArray⟩], .int .i64 mode] w (GiveS w (whS (rd x) mode)) := by
  have cm := dMay lx
  by_cases h0 : mode < 0
  · rw [whS_mode (.inl h0)]
    exact rgw_lo mode h0 w (Lib.hid cm)
  by_cases h2 : 2 < mode
  · rw [whS_mode (.inr h2)]
    exact rgw_hi mode h0 h2 w (Lib.hid cm)
  obtain ⟨m, rfl⟩ : ∃ m : Nat, mode = (m : Int) := ⟨mode.toNat, by omega⟩
  have hw := whS_yes (p := rd x) (m := m) (isR_rd x) (by omega)
  rw [valR_rd] at hw
  rw [hw]
  have lf : x.floor.natAbs < 10 ^ k := by
    rw [Rat.floor_def]
    exact Nat.lt_of_le_of_lt (natAbs_ediv _ _) lx.num
  have hk0 := lx.pos
  have lfw : Ltw x.floor (k + 1) := Ltw.mk' lf hk0 (by omega)
  have lfs := lfw.size
  have l1 : Ltw 1 1 := ⟨by rw [wd_pos (by decide)]; exact dig_length (by decide) (by decide), by decide⟩
  have lfq : Lq (x.floor : Rat) (k + 1) := ⟨by rw [Rat.num_intCast]; exact Nat.lt_of_lt_of_le lf (Nat.pow_le_pow_right (by decide) (by omega)), by rw [Rat.den_intCast]; exact Nat.lt_of_lt_of_le (by decide : 1 < 10 ^ 1) (Nat.pow_le_pow_right (by decide) (by omega)), by omega, by omega⟩
  have lhq : Lq ((x.floor + 1 : Int) : Rat) (k + 1) := ⟨by
      rw [Rat.num_intCast]
      have : 10 ^ k * 10 = 10 ^ (k + 1) := (Nat.pow_succ 10 k).symm
      have := Nat.pow_pos (n := k) (show 0 < 10 by decide)
      omega, by rw [Rat.den_intCast]; exact Nat.lt_of_lt_of_le (by decide : 1 < 10 ^ 1) (Nat.pow_le_pow_right (by decide) (by omega)), by omega, by omega⟩
  have csp := dSplit lx (n := x.floor) rfl (z := x - (x.floor : Rat)) rfl
  have cad : ∀ w, Calls Tryz.prog 32 #[.string ⟨(wd x.floor).toArray⟩, .string ⟨#[49]⟩] w (GiveS w (wd (x.floor + 1))) := fun w => by
    have c := rwadd_any ⟨(wd x.floor).toArray⟩ ⟨#[49]⟩ w (by omega) (by decide)
    have e : addW (⟨(wd x.floor).toArray⟩ : ByteArray).data.toList (⟨#[49]⟩ : ByteArray).data.toList = wd (x.floor + 1) := by
      have e1 : ([49] : List UInt8) = wd 1 := by rw [wd_pos (by decide), show (1 : Int).natAbs = 1 from rfl, dig_1]
      show addW (wd x.floor) [49] = _
      rw [e1, addW_ww]
    rw [e] at c
    exact c
  by_cases hm0 : m = 0
  · subst hm0
    rw [whQ_zero]
    exact rgw_m0 _ rfl w (Lib.hid cm) (Lib.hid csp) (Lib.hid cad)
  have hm0' : ¬ (m : Int) = 0 := by omega
  by_cases hx : (x.floor : Rat) = x
  · have e : whQ m x = x.floor := by
      unfold whQ
      rw [if_pos (.inr hx)]
    have k1 : rdN x = wd x.floor := (congrArg rdN hx).symm.trans (rdN_int _)
    have k2 : rdD x = [49] := (congrArg rdD hx).symm.trans (rdD_int _)
    rw [e]
    exact rgw_eq _ h0 h2 hm0' (by rw [k1]; exact beq_self_eq_true _) (by rw [k2]; rfl) (by rw [k2]; rfl) w (Lib.hid cm) (Lib.hid csp) (Lib.hid cad)
  have hn := ne_ways hx
  have hn0 : ¬ (m = 0 ∨ (x.floor : Rat) = x) := by rintro (h | h); exact hm0 h; exact hx h
  by_cases hm1 : m = 1
  · subst hm1
    have csg := dSign lx (s := sgnQ x) rfl
    by_cases hs : sgnQ x < 0
    · have e : whQ 1 x = x.floor + 1 := by
        unfold whQ
        rw [if_neg hn0, if_pos rfl, if_pos (sgn_lt_zero.1 hs)]
      rw [e]
      rcases hn with ⟨e1, e2⟩ | ⟨e1, e2, e3⟩
      · exact rgw_tneg_a _ e1 e2 rfl hs w (Lib.hid cm) (Lib.hid csp) (Lib.hid cad) (Lib.hid csg)
      · exact rgw_tneg_b _ e1 e2 e3 rfl hs w (Lib.hid cm) (Lib.hid csp) (Lib.hid cad) (Lib.hid csg)
    · have e : whQ 1 x = x.floor := by
        unfold whQ
        rw [if_neg hn0, if_pos rfl, if_neg (fun h => hs (sgn_lt_zero.2 h))]
      rw [e]
      rcases hn with ⟨e1, e2⟩ | ⟨e1, e2, e3⟩
      · exact rgw_tpos_a _ e1 e2 rfl hs w (Lib.hid cm) (Lib.hid csp) (Lib.hid cad) (Lib.hid csg)
      · exact rgw_tpos_b _ e1 e2 e3 rfl hs w (Lib.hid cm) (Lib.hid csp) (Lib.hid cad) (Lib.hid csg)
  have hm2 : m = 2 := by omega
  subst hm2
  obtain ⟨u, hu⟩ : ∃ u, x - (x.floor : Rat) = u := ⟨_, rfl⟩
  obtain ⟨v, hv⟩ : ∃ v, ((x.floor + 1 : Int) : Rat) - x = v := ⟨_, rfl⟩
  have lu : Lq u (k + (k + 1) + 1) := by rw [← hu]; exact Lq.sub lx lfq (by omega)
  have lv : Lq v (k + 1 + k + 1) := by rw [← hv]; exact Lq.sub lhq lx (by omega)
  have c1 := dSub lx lfq hu
  rw [rdN_int, rdD_int] at c1
  have c2 := dSub lhq lx hv
  rw [rdN_int, rdD_int] at c2
  obtain ⟨c, hc⟩ : ∃ c, sgnQ (u - v) = c := ⟨_, rfl⟩
  have cc := dCmp lu lv hc
  have cd : ∀ w, Calls Tryz.prog 33 #[.string ⟨(wd x.floor).toArray⟩, .string ⟨#[50]⟩] w (GiveSSB w (wd (x.floor / 2), wd (x.floor % 2), true)) := fun w => by
    have c := rwdiv_any ⟨(wd x.floor).toArray⟩ ⟨#[50]⟩ w (by omega) (by decide)
    have e : divW (⟨(wd x.floor).toArray⟩ : ByteArray).data.toList (⟨#[50]⟩ : ByteArray).data.toList = (wd (x.floor / 2), wd (x.floor % 2), true) := by
      have e1 : ([50] : List UInt8) = wd 2 := by rw [wd_pos (by decide)]; exact (dig_valS (l := [50]) (by decide)).symm
      show divW (wd x.floor) [50] = _
      rw [e1]
      unfold divW
      rw [isW_wd, isW_wd, valW_wd, valW_wd]; rfl
    rw [e] at c
    exact c
  have ho := wd_odd x.floor
  have hq : whQ 2 x = if u < v ∨ (u = v ∧ x.floor % 2 = 0) then x.floor else x.floor + 1 := by
    unfold whQ
    rw [if_neg hn0, if_neg (by decide), hu, hv]
  by_cases k1 : c < 0
  · have k2 : u < v := by
      rw [← hc, sgn_lt_zero] at k1
      grind
    rw [hq, if_pos (.inl k2)]
    rcases hn with ⟨e1, e2⟩ | ⟨e1, e2, e3⟩
    · exact rgw_lt_a _ e1 e2 rfl k1 w (Lib.hid cm) (Lib.hid csp) (Lib.hid cad) (Lib.hid c1) (Lib.hid c2) (Lib.hid cc) (Lib.hid cd)
    · exact rgw_lt_b _ e1 e2 e3 rfl k1 w (Lib.hid cm) (Lib.hid csp) (Lib.hid cad) (Lib.hid c1) (Lib.hid c2) (Lib.hid cc) (Lib.hid cd)
  · have k3 : ¬ u < v := fun h => k1 (by rw [← hc, sgn_lt_zero]; grind)
    by_cases k2 : c = 0
    · have k4 : u = v := by
        rw [← hc, sgnQ_eq_zero] at k2
        exact sub_zero_iff.1 k2
      by_cases k5 : x.floor % 2 = 0
      · rw [decide_eq_true k5] at ho
        rw [hq, if_pos (.inr ⟨k4, k5⟩)]
        rcases hn with ⟨e1, e2⟩ | ⟨e1, e2, e3⟩
        · exact rgw_even_a _ e1 e2 rfl k2 ho w (Lib.hid cm) (Lib.hid csp) (Lib.hid cad) (Lib.hid c1) (Lib.hid c2) (Lib.hid cc) (Lib.hid cd)
        · exact rgw_even_b _ e1 e2 e3 rfl k2 ho w (Lib.hid cm) (Lib.hid csp) (Lib.hid cad) (Lib.hid c1) (Lib.hid c2) (Lib.hid cc) (Lib.hid cd)
      · rw [decide_eq_false k5] at ho
        rw [hq, if_neg (by rintro (h | ⟨_, h⟩); exact k3 h; exact k5 h)]
        rcases hn with ⟨e1, e2⟩ | ⟨e1, e2, e3⟩
        · exact rgw_odd_a _ e1 e2 rfl k2 ho w (Lib.hid cm) (Lib.hid csp) (Lib.hid cad) (Lib.hid c1) (Lib.hid c2) (Lib.hid cc) (Lib.hid cd)
        · exact rgw_odd_b _ e1 e2 e3 rfl k2 ho w (Lib.hid cm) (Lib.hid csp) (Lib.hid cad) (Lib.hid c1) (Lib.hid c2) (Lib.hid cc) (Lib.hid cd)
    · have k4 : ¬ u = v := fun h => k2 (by rw [← hc, sgnQ_eq_zero]; exact sub_zero_iff.2 h)
      rw [hq, if_neg (by rintro (h | ⟨h, _⟩); exact k3 h; exact k4 h)]
      rcases hn with ⟨e1, e2⟩ | ⟨e1, e2, e3⟩
      · exact rgw_gt_a _ e1 e2 rfl k1 k2 w (Lib.hid cm) (Lib.hid csp) (Lib.hid cad) (Lib.hid c1) (Lib.hid c2) (Lib.hid cc) (Lib.hid cd)
      · exact rgw_gt_b _ e1 e2 e3 rfl k1 k2 w (Lib.hid cm) (Lib.hid csp) (Lib.hid cad) (Lib.hid c1) (Lib.hid c2) (Lib.hid cc) (Lib.hid cd)
theorem rgwhole_any (n d : ByteArray) (mode : Int) (w : World) (hn : n.size ≤ 4000) (hd : d.size ≤ 4000) :
    Calls Tryz.prog 10 #[.agg #[.string n, .string d], .int .i64 mode] w (GiveS w (whS (n.data.toList, d.data.toList) mode)) := by
  cases h : isR (n.data.toList, d.data.toList) with
  | false =>
    rw [whS_no h]
    have cm : ∀ w, Calls Tryz.prog 20 #[.agg #[.string ⟨n.data.toList.toArray⟩, .string ⟨d.data.toList.toArray⟩]] w (GiveB w false) := fun w => by
      have c := rqmay_any n d w (by omega) (by omega)
      rw [h] at c
      exact c
    exact rgw_no mode w (Lib.hid cm)
  | true =>
    have lx := Lq.of_text (k := 4000) h hn hd (by decide)
    obtain ⟨e1, e2⟩ := str_rd h
    have e := rd_valR h
    rw [← e]
    generalize valR (n.data.toList, d.data.toList) = X at *
    subst e1
    subst e2
    exact rgwhole_q lx (by decide) mode w
end Go.Proofs.YtnahepfnejdcgaaGreatDoor
