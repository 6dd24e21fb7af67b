/- The walk of GridHalves. -/
import Derived.Deep.CutRange
import Derived.Test.YtnahepfnejdcgaaDoorWCents5
namespace Go.Proofs.YtnahepfnejdcgaaDoor
open Go.RowKit
set_option linter.unusedSimpArgs false
set_option linter.unusedVariables false

theorem fld0 (a b : ByteArray) (w : World) : (Instr.field 24 (.agg #[.string a, .string b]) 0).run Tryd.prog w = .ok (.string a) w := by kernel_rfl
set_option maxRecDepth 100000 in
set_option maxHeartbeats 4000000 in
theorem halves5_zn (n q : Int) {x1 x2 z1 : List UInt8} (w : World) (h0 : ¬ n < -1000000) (h1 : ¬ 1000000 < n) (hq : n.tdiv 2 = q) (q0 : -500000 ≤ q) (q1 : q ≤ 500000) (hn : n < 0) (hr : n.tmod 2 = 0) (ht : GoodG w)
    (O1 : Hid (∀ w, Calls Tryd.prog 6 #[.int .i64 n, .int .i64 2] w (GiveR w (x1, x2))))
    (W2 : Hid (∀ w, GoodG w → Calls Tryd.prog 7 #[.agg #[.string ⟨x1.toArray⟩, .string ⟨x2.toArray⟩], .int .i64 2] w (GiveS w z1)))
    (F2 : Hid (∀ w, Calls Tryd.prog 8 #[.int .i64 q] w (GiveR w (z1, [49]))))
    (W0 : Hid (∀ w, GoodG w → Calls Tryd.prog 7 #[.agg #[.string ⟨x1.toArray⟩, .string ⟨x2.toArray⟩], .int .i64 0] w (GiveS w z1)))
    (F0 : Hid (∀ w, Calls Tryd.prog 8 #[.int .i64 q] w (GiveR w (z1, [49]))))
    (W1 : Hid (∀ w, GoodG w → Calls Tryd.prog 7 #[.agg #[.string ⟨x1.toArray⟩, .string ⟨x2.toArray⟩], .int .i64 1] w (GiveS w z1)))
    (F1 : Hid (∀ w, Calls Tryd.prog 8 #[.int .i64 q] w (GiveR w (z1, [49])))) :
    Calls Tryd.prog 3 #[.int .i64 n] w (GiveB w true) := by
  have HT := Lib.hid ht; clear ht
  go_enter Tryd.func3, Tryd.ntmps3
  go_wp2_with fail
  have BW := Below.refl w.heap.size w
  have b0 : Below w.heap.size w w := Below.refl _ _
  refine (fixed5_any _ (HT.out.below b0)).mono ?_
  rintro e w1 ⟨rfl, b⟩
  have b1 := Below.more b0 b
  clear b
  go_wp2_with fail
  refine (O1.out _).mono ?_
  rintro e w2 ⟨rfl, b⟩
  have b2 := Below.more b1 b
  clear b
  have ba := fun x => Below.alloc b2 (Below.size b2) x
  go_wp2_with fail
  obtain ⟨U3, hU, bU, s3, rx0, rx1⟩ := lay b2 (.string ⟨x1.toArray⟩) (.string ⟨x2.toArray⟩) 24
  rw [hU]; clear hU
  clear s3
  replace BW := Below.more BW bU
  replace HT := Lib.hid (HT.out.below bU)
  clear bU
  have b3 := Below.refl U3.heap.size U3
  clear ba
  refine (W2.out _ (HT.out.below b3)).mono ?_
  rintro e w4 ⟨rfl, b⟩
  have b4 := Below.more b3 b
  clear b
  go_wp2_with fail
  refine (F2.out _).mono ?_
  rintro e w5 ⟨rfl, b⟩
  have b5 := Below.more b4 b
  clear b
  go_wp2_with fail
  rw [fld0]
  go_wp2_with fail
  refine (W0.out _ (HT.out.below b5)).mono ?_
  rintro e w6 ⟨rfl, b⟩
  have b6 := Below.more b5 b
  clear b
  go_wp2_with fail
  refine (F0.out _).mono ?_
  rintro e w7 ⟨rfl, b⟩
  have b7 := Below.more b6 b
  clear b
  go_wp2_with fail
  rw [fld0]
  go_wp2_with fail
  refine (W1.out _ (HT.out.below b7)).mono ?_
  rintro e w8 ⟨rfl, b⟩
  have b8 := Below.more b7 b
  clear b
  go_wp2_with fail
  refine (F1.out _).mono ?_
  rintro e w9 ⟨rfl, b⟩
  have b9 := Below.more b8 b
  clear b
  go_wp2_with fail
  rw [fld0]
  go_wp2_with fail
  go_ret
  exact ⟨ret_bool (by first | rfl | simp [*]), Below.more BW b9⟩
set_option maxRecDepth 100000 in
set_option maxHeartbeats 4000000 in
theorem halves5_zp (n q : Int) {x1 x2 z1 : List UInt8} (w : World) (h0 : ¬ n < -1000000) (h1 : ¬ 1000000 < n) (hq : n.tdiv 2 = q) (q0 : -500000 ≤ q) (q1 : q ≤ 500000) (hn : ¬ n < 0) (hr : n.tmod 2 = 0) (ht : GoodG w)
    (O1 : Hid (∀ w, Calls Tryd.prog 6 #[.int .i64 n, .int .i64 2] w (GiveR w (x1, x2))))
    (W2 : Hid (∀ w, GoodG w → Calls Tryd.prog 7 #[.agg #[.string ⟨x1.toArray⟩, .string ⟨x2.toArray⟩], .int .i64 2] w (GiveS w z1)))
    (F2 : Hid (∀ w, Calls Tryd.prog 8 #[.int .i64 q] w (GiveR w (z1, [49]))))
    (W0 : Hid (∀ w, GoodG w → Calls Tryd.prog 7 #[.agg #[.string ⟨x1.toArray⟩, .string ⟨x2.toArray⟩], .int .i64 0] w (GiveS w z1)))
    (F0 : Hid (∀ w, Calls Tryd.prog 8 #[.int .i64 q] w (GiveR w (z1, [49]))))
    (W1 : Hid (∀ w, GoodG w → Calls Tryd.prog 7 #[.agg #[.string ⟨x1.toArray⟩, .string ⟨x2.toArray⟩], .int .i64 1] w (GiveS w z1)))
    (F1 : Hid (∀ w, Calls Tryd.prog 8 #[.int .i64 q] w (GiveR w (z1, [49])))) :
    Calls Tryd.prog 3 #[.int .i64 n] w (GiveB w true) := by
  have HT := Lib.hid ht; clear ht
  go_enter Tryd.func3, Tryd.ntmps3
  go_wp2_with fail
  have BW := Below.refl w.heap.size w
  have b0 : Below w.heap.size w w := Below.refl _ _
  refine (fixed5_any _ (HT.out.below b0)).mono ?_
  rintro e w1 ⟨rfl, b⟩
  have b1 := Below.more b0 b
  clear b
  go_wp2_with fail
  refine (O1.out _).mono ?_
  rintro e w2 ⟨rfl, b⟩
  have b2 := Below.more b1 b
  clear b
  have ba := fun x => Below.alloc b2 (Below.size b2) x
  go_wp2_with fail
  obtain ⟨U3, hU, bU, s3, rx0, rx1⟩ := lay b2 (.string ⟨x1.toArray⟩) (.string ⟨x2.toArray⟩) 24
  rw [hU]; clear hU
  clear s3
  replace BW := Below.more BW bU
  replace HT := Lib.hid (HT.out.below bU)
  clear bU
  have b3 := Below.refl U3.heap.size U3
  clear ba
  refine (W2.out _ (HT.out.below b3)).mono ?_
  rintro e w4 ⟨rfl, b⟩
  have b4 := Below.more b3 b
  clear b
  go_wp2_with fail
  refine (F2.out _).mono ?_
  rintro e w5 ⟨rfl, b⟩
  have b5 := Below.more b4 b
  clear b
  go_wp2_with fail
  rw [fld0]
  go_wp2_with fail
  refine (W0.out _ (HT.out.below b5)).mono ?_
  rintro e w6 ⟨rfl, b⟩
  have b6 := Below.more b5 b
  clear b
  go_wp2_with fail
  refine (F0.out _).mono ?_
  rintro e w7 ⟨rfl, b⟩
  have b7 := Below.more b6 b
  clear b
  go_wp2_with fail
  rw [fld0]
  go_wp2_with fail
  refine (W1.out _ (HT.out.below b7)).mono ?_
  rintro e w8 ⟨rfl, b⟩
  have b8 := Below.more b7 b
  clear b
  go_wp2_with fail
  refine (F1.out _).mono ?_
  rintro e w9 ⟨rfl, b⟩
  have b9 := Below.more b8 b
  clear b
  go_wp2_with fail
  rw [fld0]
  go_wp2_with fail
  go_ret
  exact ⟨ret_bool (by first | rfl | simp [*]), Below.more BW b9⟩
set_option maxRecDepth 100000 in
set_option maxHeartbeats 4000000 in
theorem halves5_pe (n q : Int) {x1 x2 z1 : List UInt8} (w : World) (h0 : ¬ n < -1000000) (h1 : ¬ 1000000 < n) (hq : n.tdiv 2 = q) (q0 : -500000 ≤ q) (q1 : q ≤ 500000) (hn : ¬ n < 0) (hr : n.tmod 2 = 1) (hs : q.tmod 2 = 0) (ht : GoodG w)
    (O1 : Hid (∀ w, Calls Tryd.prog 6 #[.int .i64 n, .int .i64 2] w (GiveR w (x1, x2))))
    (W2 : Hid (∀ w, GoodG w → Calls Tryd.prog 7 #[.agg #[.string ⟨x1.toArray⟩, .string ⟨x2.toArray⟩], .int .i64 2] w (GiveS w z1)))
    (F2 : Hid (∀ w, Calls Tryd.prog 8 #[.int .i64 q] w (GiveR w (z1, [49]))))
    (W0 : Hid (∀ w, GoodG w → Calls Tryd.prog 7 #[.agg #[.string ⟨x1.toArray⟩, .string ⟨x2.toArray⟩], .int .i64 0] w (GiveS w z1)))
    (F0 : Hid (∀ w, Calls Tryd.prog 8 #[.int .i64 q] w (GiveR w (z1, [49]))))
    (W1 : Hid (∀ w, GoodG w → Calls Tryd.prog 7 #[.agg #[.string ⟨x1.toArray⟩, .string ⟨x2.toArray⟩], .int .i64 1] w (GiveS w z1)))
    (F1 : Hid (∀ w, Calls Tryd.prog 8 #[.int .i64 q] w (GiveR w (z1, [49])))) :
    Calls Tryd.prog 3 #[.int .i64 n] w (GiveB w true) := by
  have HT := Lib.hid ht; clear ht
  go_enter Tryd.func3, Tryd.ntmps3
  go_wp2_with fail
  have BW := Below.refl w.heap.size w
  have b0 : Below w.heap.size w w := Below.refl _ _
  refine (fixed5_any _ (HT.out.below b0)).mono ?_
  rintro e w1 ⟨rfl, b⟩
  have b1 := Below.more b0 b
  clear b
  go_wp2_with fail
  refine (O1.out _).mono ?_
  rintro e w2 ⟨rfl, b⟩
  have b2 := Below.more b1 b
  clear b
  have ba := fun x => Below.alloc b2 (Below.size b2) x
  go_wp2_with fail
  obtain ⟨U3, hU, bU, s3, rx0, rx1⟩ := lay b2 (.string ⟨x1.toArray⟩) (.string ⟨x2.toArray⟩) 24
  rw [hU]; clear hU
  clear s3
  replace BW := Below.more BW bU
  replace HT := Lib.hid (HT.out.below bU)
  clear bU
  have b3 := Below.refl U3.heap.size U3
  clear ba
  refine (W2.out _ (HT.out.below b3)).mono ?_
  rintro e w4 ⟨rfl, b⟩
  have b4 := Below.more b3 b
  clear b
  go_wp2_with fail
  refine (F2.out _).mono ?_
  rintro e w5 ⟨rfl, b⟩
  have b5 := Below.more b4 b
  clear b
  go_wp2_with fail
  rw [fld0]
  go_wp2_with fail
  refine (W0.out _ (HT.out.below b5)).mono ?_
  rintro e w6 ⟨rfl, b⟩
  have b6 := Below.more b5 b
  clear b
  go_wp2_with fail
  refine (F0.out _).mono ?_
  rintro e w7 ⟨rfl, b⟩
  have b7 := Below.more b6 b
  clear b
  go_wp2_with fail
  rw [fld0]
  go_wp2_with fail
  refine (W1.out _ (HT.out.below b7)).mono ?_
  rintro e w8 ⟨rfl, b⟩
  have b8 := Below.more b7 b
  clear b
  go_wp2_with fail
  refine (F1.out _).mono ?_
  rintro e w9 ⟨rfl, b⟩
  have b9 := Below.more b8 b
  clear b
  go_wp2_with fail
  rw [fld0]
  go_wp2_with fail
  go_ret
  exact ⟨ret_bool (by first | rfl | simp [*]), Below.more BW b9⟩
set_option maxRecDepth 100000 in
set_option maxHeartbeats 4000000 in
theorem halves5_po (n q e : Int) {x1 x2 z1 z2 : List UInt8} (w : World) (h0 : ¬ n < -1000000) (h1 : ¬ 1000000 < n) (hq : n.tdiv 2 = q) (q0 : -500000 ≤ q) (q1 : q ≤ 500000) (hn : ¬ n < 0) (hr : n.tmod 2 = 1) (hs : q.tmod 2 = 1) (he : q + 1 = e) (ht : GoodG w)
    (O1 : Hid (∀ w, Calls Tryd.prog 6 #[.int .i64 n, .int .i64 2] w (GiveR w (x1, x2))))
    (W2 : Hid (∀ w, GoodG w → Calls Tryd.prog 7 #[.agg #[.string ⟨x1.toArray⟩, .string ⟨x2.toArray⟩], .int .i64 2] w (GiveS w z2)))
    (F2 : Hid (∀ w, Calls Tryd.prog 8 #[.int .i64 e] w (GiveR w (z2, [49]))))
    (W0 : Hid (∀ w, GoodG w → Calls Tryd.prog 7 #[.agg #[.string ⟨x1.toArray⟩, .string ⟨x2.toArray⟩], .int .i64 0] w (GiveS w z1)))
    (F0 : Hid (∀ w, Calls Tryd.prog 8 #[.int .i64 q] w (GiveR w (z1, [49]))))
    (W1 : Hid (∀ w, GoodG w → Calls Tryd.prog 7 #[.agg #[.string ⟨x1.toArray⟩, .string ⟨x2.toArray⟩], .int .i64 1] w (GiveS w z1)))
    (F1 : Hid (∀ w, Calls Tryd.prog 8 #[.int .i64 q] w (GiveR w (z1, [49])))) :
    Calls Tryd.prog 3 #[.int .i64 n] w (GiveB w true) := by
  have HT := Lib.hid ht; clear ht
  go_enter Tryd.func3, Tryd.ntmps3
  go_wp2_with fail
  have BW := Below.refl w.heap.size w
  have b0 : Below w.heap.size w w := Below.refl _ _
  refine (fixed5_any _ (HT.out.below b0)).mono ?_
  rintro e w1 ⟨rfl, b⟩
  have b1 := Below.more b0 b
  clear b
  go_wp2_with fail
  refine (O1.out _).mono ?_
  rintro e w2 ⟨rfl, b⟩
  have b2 := Below.more b1 b
  clear b
  have ba := fun x => Below.alloc b2 (Below.size b2) x
  go_wp2_with fail
  obtain ⟨U3, hU, bU, s3, rx0, rx1⟩ := lay b2 (.string ⟨x1.toArray⟩) (.string ⟨x2.toArray⟩) 24
  rw [hU]; clear hU
  clear s3
  replace BW := Below.more BW bU
  replace HT := Lib.hid (HT.out.below bU)
  clear bU
  have b3 := Below.refl U3.heap.size U3
  clear ba
  refine (W2.out _ (HT.out.below b3)).mono ?_
  rintro e w4 ⟨rfl, b⟩
  have b4 := Below.more b3 b
  clear b
  go_wp2_with fail
  refine (F2.out _).mono ?_
  rintro e w5 ⟨rfl, b⟩
  have b5 := Below.more b4 b
  clear b
  go_wp2_with fail
  rw [fld0]
  go_wp2_with fail
  refine (W0.out _ (HT.out.below b5)).mono ?_
  rintro e w6 ⟨rfl, b⟩
  have b6 := Below.more b5 b
  clear b
  go_wp2_with fail
  refine (F0.out _).mono ?_
  rintro e w7 ⟨rfl, b⟩
  have b7 := Below.more b6 b
  clear b
  go_wp2_with fail
  rw [fld0]
  go_wp2_with fail
  refine (W1.out _ (HT.out.below b7)).mono ?_
  rintro e w8 ⟨rfl, b⟩
  have b8 := Below.more b7 b
  clear b
  go_wp2_with fail
  refine (F1.out _).mono ?_
  rintro e w9 ⟨rfl, b⟩
  have b9 := Below.more b8 b
  clear b
  go_wp2_with fail
  rw [fld0]
  go_wp2_with fail
  go_ret
  exact ⟨ret_bool (by first | rfl | simp [*]), Below.more BW b9⟩
set_option maxRecDepth 100000 in
set_option maxHeartbeats 4000000 in
theorem halves5_ne (n q f : Int) {x1 x2 z1 z3 : List UInt8} (w : World) (h0 : ¬ n < -1000000) (h1 : ¬ 1000000 < n) (hq : n.tdiv 2 = q) (q0 : -500000 ≤ q) (q1 : q ≤ 500000) (hn : n < 0) (hr : n.tmod 2 = -1) (hs : q.tmod 2 = 0) (hf : q - 1 = f) (ht : GoodG w)
    (O1 : Hid (∀ w, Calls Tryd.prog 6 #[.int .i64 n, .int .i64 2] w (GiveR w (x1, x2))))
    (W2 : Hid (∀ w, GoodG w → Calls Tryd.prog 7 #[.agg #[.string ⟨x1.toArray⟩, .string ⟨x2.toArray⟩], .int .i64 2] w (GiveS w z1)))
    (F2 : Hid (∀ w, Calls Tryd.prog 8 #[.int .i64 q] w (GiveR w (z1, [49]))))
    (W0 : Hid (∀ w, GoodG w → Calls Tryd.prog 7 #[.agg #[.string ⟨x1.toArray⟩, .string ⟨x2.toArray⟩], .int .i64 0] w (GiveS w z3)))
    (F0 : Hid (∀ w, Calls Tryd.prog 8 #[.int .i64 f] w (GiveR w (z3, [49]))))
    (W1 : Hid (∀ w, GoodG w → Calls Tryd.prog 7 #[.agg #[.string ⟨x1.toArray⟩, .string ⟨x2.toArray⟩], .int .i64 1] w (GiveS w z1)))
    (F1 : Hid (∀ w, Calls Tryd.prog 8 #[.int .i64 q] w (GiveR w (z1, [49])))) :
    Calls Tryd.prog 3 #[.int .i64 n] w (GiveB w true) := by
  have HT := Lib.hid ht; clear ht
  go_enter Tryd.func3, Tryd.ntmps3
  go_wp2_with fail
  have BW := Below.refl w.heap.size w
  have b0 : Below w.heap.size w w := Below.refl _ _
  refine (fixed5_any _ (HT.out.below b0)).mono ?_
  rintro e w1 ⟨rfl, b⟩
  have b1 := Below.more b0 b
  clear b
  go_wp2_with fail
  refine (O1.out _).mono ?_
  rintro e w2 ⟨rfl, b⟩
  have b2 := Below.more b1 b
  clear b
  have ba := fun x => Below.alloc b2 (Below.size b2) x
  go_wp2_with fail
  obtain ⟨U3, hU, bU, s3, rx0, rx1⟩ := lay b2 (.string ⟨x1.toArray⟩) (.string ⟨x2.toArray⟩) 24
  rw [hU]; clear hU
  clear s3
  replace BW := Below.more BW bU
  replace HT := Lib.hid (HT.out.below bU)
  clear bU
  have b3 := Below.refl U3.heap.size U3
  clear ba
  refine (W2.out _ (HT.out.below b3)).mono ?_
  rintro e w4 ⟨rfl, b⟩
  have b4 := Below.more b3 b
  clear b
  go_wp2_with fail
  refine (F2.out _).mono ?_
  rintro e w5 ⟨rfl, b⟩
  have b5 := Below.more b4 b
  clear b
  go_wp2_with fail
  rw [fld0]
  go_wp2_with fail
  refine (W0.out _ (HT.out.below b5)).mono ?_
  rintro e w6 ⟨rfl, b⟩
  have b6 := Below.more b5 b
  clear b
  go_wp2_with fail
  refine (F0.out _).mono ?_
  rintro e w7 ⟨rfl, b⟩
  have b7 := Below.more b6 b
  clear b
  go_wp2_with fail
  rw [fld0]
  go_wp2_with fail
  refine (W1.out _ (HT.out.below b7)).mono ?_
  rintro e w8 ⟨rfl, b⟩
  have b8 := Below.more b7 b
  clear b
  go_wp2_with fail
  refine (F1.out _).mono ?_
  rintro e w9 ⟨rfl, b⟩
  have b9 := Below.more b8 b
  clear b
  go_wp2_with fail
  rw [fld0]
  go_wp2_with fail
  go_ret
  exact ⟨ret_bool (by first | rfl | simp [*]), Below.more BW b9⟩
set_option maxRecDepth 100000 in
set_option maxHeartbeats 4000000 in
theorem halves5_no (n q e : Int) {x1 x2 z1 z2 : List UInt8} (w : World) (h0 : ¬ n < -1000000) (h1 : ¬ 1000000 < n) (hq : n.tdiv 2 = q) (q0 : -500000 ≤ q) (q1 : q ≤ 500000) (hn : n < 0) (hr : n.tmod 2 = -1) (hs : q.tmod 2 = -1) (he : q + -1 = e) (hf : q - 1 = e) (ht : GoodG w)
    (O1 : Hid (∀ w, Calls Tryd.prog 6 #[.int .i64 n, .int .i64 2] w (GiveR w (x1, x2))))
    (W2 : Hid (∀ w, GoodG w → Calls Tryd.prog 7 #[.agg #[.string ⟨x1.toArray⟩, .string ⟨x2.toArray⟩], .int .i64 2] w (GiveS w z2)))
    (F2 : Hid (∀ w, Calls Tryd.prog 8 #[.int .i64 e] w (GiveR w (z2, [49]))))
    (W0 : Hid (∀ w, GoodG w → Calls Tryd.prog 7 #[.agg #[.string ⟨x1.toArray⟩, .string ⟨x2.toArray⟩], .int .i64 0] w (GiveS w z2)))
    (F0 : Hid (∀ w, Calls Tryd.prog 8 #[.int .i64 e] w (GiveR w (z2, [49]))))
    (W1 : Hid (∀ w, GoodG w → Calls Tryd.prog 7 #[.agg #[.string ⟨x1.toArray⟩, .string ⟨x2.toArray⟩], .int .i64 1] w (GiveS w z1)))
    (F1 : Hid (∀ w, Calls Tryd.prog 8 #[.int .i64 q] w (GiveR w (z1, [49])))) :
    Calls Tryd.prog 3 #[.int .i64 n] w (GiveB w true) := by
  have HT := Lib.hid ht; clear ht
  go_enter Tryd.func3, Tryd.ntmps3
  go_wp2_with fail
  have BW := Below.refl w.heap.size w
  have b0 : Below w.heap.size w w := Below.refl _ _
  refine (fixed5_any _ (HT.out.below b0)).mono ?_
  rintro e w1 ⟨rfl, b⟩
  have b1 := Below.more b0 b
  clear b
  go_wp2_with fail
  refine (O1.out _).mono ?_
  rintro e w2 ⟨rfl, b⟩
  have b2 := Below.more b1 b
  clear b
  have ba := fun x => Below.alloc b2 (Below.size b2) x
  go_wp2_with fail
  obtain ⟨U3, hU, bU, s3, rx0, rx1⟩ := lay b2 (.string ⟨x1.toArray⟩) (.string ⟨x2.toArray⟩) 24
  rw [hU]; clear hU
  clear s3
  replace BW := Below.more BW bU
  replace HT := Lib.hid (HT.out.below bU)
  clear bU
  have b3 := Below.refl U3.heap.size U3
  clear ba
  refine (W2.out _ (HT.out.below b3)).mono ?_
  rintro e w4 ⟨rfl, b⟩
  have b4 := Below.more b3 b
  clear b
  go_wp2_with fail
  refine (F2.out _).mono ?_
  rintro e w5 ⟨rfl, b⟩
  have b5 := Below.more b4 b
  clear b
  go_wp2_with fail
  rw [fld0]
  go_wp2_with fail
  refine (W0.out _ (HT.out.below b5)).mono ?_
  rintro e w6 ⟨rfl, b⟩
  have b6 := Below.more b5 b
  clear b
  go_wp2_with fail
  refine (F0.out _).mono ?_
  rintro e w7 ⟨rfl, b⟩
  have b7 := Below.more b6 b
  clear b
  go_wp2_with fail
  rw [fld0]
  go_wp2_with fail
  refine (W1.out _ (HT.out.below b7)).mono ?_
  rintro e w8 ⟨rfl, b⟩
  have b8 := Below.more b7 b
  clear b
  go_wp2_with fail
  refine (F1.out _).mono ?_
  rintro e w9 ⟨rfl, b⟩
  have b9 := Below.more b8 b
  clear b
  go_wp2_with fail
  rw [fld0]
  go_wp2_with fail
  go_ret
  exact ⟨ret_bool (by first | rfl | simp [*]), Below.more BW b9⟩
set_option maxRecDepth 100000 in
set_option maxHeartbeats 4000000 in
theorem halves5_any (n : Int) (w : World) (k0 : -9223372036854775808 ≤ n) (k1 : n ≤ 9223372036854775807) (ht : GoodG w) :
    Calls Tryd.prog 3 #[.int .i64 n] w (GiveB w true) := by
  by_cases h0 : n < -1000000
  · clear k0 k1
    have HT := Lib.hid ht; clear ht
    go_enter Tryd.func3, Tryd.ntmps3
    go_wp2_with fail
    have BW := Below.refl w.heap.size w
    have b0 : Below w.heap.size w w := Below.refl _ _
    refine (fixed5_any _ (HT.out.below b0)).mono ?_
    rintro e w1 ⟨rfl, b⟩
    have b1 := Below.more b0 b
    clear b
    go_wp2_with fail
    refine (fixed5_any _ (HT.out.below b1)).mono ?_
    rintro e w2 ⟨rfl, b⟩
    have b2 := Below.more b1 b
    clear b
    go_wp2_with fail
    go_ret
    exact ⟨rfl, Below.more BW b2⟩
  · by_cases h1 : 1000000 < n
    · clear k0 k1
      have HT := Lib.hid ht; clear ht
      go_enter Tryd.func3, Tryd.ntmps3
      go_wp2_with fail
      have BW := Below.refl w.heap.size w
      have b0 : Below w.heap.size w w := Below.refl _ _
      refine (fixed5_any _ (HT.out.below b0)).mono ?_
      rintro e w1 ⟨rfl, b⟩
      have b1 := Below.more b0 b
      clear b
      go_wp2_with fail
      refine (fixed5_any _ (HT.out.below b1)).mono ?_
      rintro e w2 ⟨rfl, b⟩
      have b2 := Below.more b1 b
      clear b
      go_wp2_with fail
      go_ret
      exact ⟨rfl, Below.more BW b2⟩
    · obtain ⟨q, hq⟩ : ∃ q, n.tdiv 2 = q := ⟨_, rfl⟩
      obtain ⟨r, hr⟩ : ∃ r, n.tmod 2 = r := ⟨_, rfl⟩
      obtain ⟨s, hs⟩ : ∃ s, q.tmod 2 = s := ⟨_, rfl⟩
      have hn : 2 * q + r = n := by rw [← hq, ← hr]; exact Int.mul_tdiv_add_tmod n 2
      have hqs : 2 * q.tdiv 2 + s = q := by rw [← hs]; exact Int.mul_tdiv_add_tmod q 2
      have r1 : r < 2 := by rw [← hr]; exact Int.tmod_lt_of_pos n (by decide)
      have r0 : -2 < r := by
        have := Int.tmod_lt_of_pos (-n) (show (0 : Int) < 2 by decide)
        rw [Int.neg_tmod, hr] at this
        omega
      have s1 : s < 2 := by rw [← hs]; exact Int.tmod_lt_of_pos q (by decide)
      have s0 : -2 < s := by
        have := Int.tmod_lt_of_pos (-q) (show (0 : Int) < 2 by decide)
        rw [Int.neg_tmod, hs] at this
        omega
      have rn : 0 ≤ n → 0 ≤ r := fun h => by rw [← hr]; exact Int.tmod_nonneg 2 h
      have rp : n ≤ 0 → r ≤ 0 := fun h => by
        have := Int.tmod_nonneg 2 (show 0 ≤ -n by omega)
        rw [Int.neg_tmod, hr] at this
        omega
      have sn : 0 ≤ q → 0 ≤ s := fun h => by rw [← hs]; exact Int.tmod_nonneg 2 h
      have sp : q ≤ 0 → s ≤ 0 := fun h => by
        have := Int.tmod_nonneg 2 (show 0 ≤ -q by omega)
        rw [Int.neg_tmod, hs] at this
        omega
      have lx := Lq.one (a := n) (b := 2) (by decide) (by decide) (by omega) (by omega)
      have o1 := one_q n (b := 2) (by decide) (by decide) k0 k1
      have of : ∀ e : Int, (-1000000 ≤ e ∧ e ≤ 1000000) → ∀ w, Calls Tryd.prog 8 #[.int .i64 e] w (GiveR w (wd e, [49])) := fun e h w => rqof_any e w (by omega) (by omega)
      have wh : ∀ (m : Nat) (e : Int), m ≤ 2 → whQ m (Rat.divInt n 2) = e → ∀ w, GoodG w → Calls Tryd.prog 7 #[.agg #[.string ⟨(rdN (Rat.divInt n 2)).toArray⟩, .string ⟨(rdD (Rat.divInt n 2)).toArray⟩], .int .i64 (m : Int)] w (GiveS w (wd e)) := fun m e hm h w hg => gWhole lx (by decide) m hm h w hg
      have hz : r = 0 → ∀ m, whQ m (Rat.divInt n 2) = q := fun h m => by rw [← hn, h, Int.add_zero]; exact whQ_half0 q m
      by_cases hr0 : r = 0
      · have z := hz hr0
        have b : -1000000 ≤ q ∧ q ≤ 1000000 := by omega
        rw [hr0] at hr
        by_cases hneg : n < 0
        · exact halves5_zn n q w h0 h1 hq (by omega) (by omega) hneg hr ht (Lib.hid o1) (Lib.hid (wh 2 q (by decide) (z 2))) (Lib.hid (of q b)) (Lib.hid (wh 0 q (by decide) (z 0))) (Lib.hid (of q b)) (Lib.hid (wh 1 q (by decide) (z 1))) (Lib.hid (of q b))
        · exact halves5_zp n q w h0 h1 hq (by omega) (by omega) hneg hr ht (Lib.hid o1) (Lib.hid (wh 2 q (by decide) (z 2))) (Lib.hid (of q b)) (Lib.hid (wh 0 q (by decide) (z 0))) (Lib.hid (of q b)) (Lib.hid (wh 1 q (by decide) (z 1))) (Lib.hid (of q b))
      · by_cases hneg : n < 0
        · have hr1 : r = -1 := by have := rp (by omega); omega
          rw [hr1] at hr hn
          have hnn : n = 2 * (q - 1) + 1 := by omega
          have z := fun m => whQ_half1 (q - 1) m
          rw [← hnn] at z
          have z0 := z 0
          have z1 := z 1
          have z2 := z 2
          rw [if_pos rfl] at z0
          rw [if_neg (by decide), if_pos rfl, if_pos (by omega)] at z1
          rw [if_neg (by decide), if_neg (by decide)] at z2
          have e1 : q - 1 + 1 = q := by omega
          rw [e1] at z1 z2
          have hsv : s = 0 ∨ s = -1 := by have := sp (by omega); omega
          have b : -1000000 ≤ q ∧ q ≤ 1000000 := by omega
          have b' : -1000000 ≤ q - 1 ∧ q - 1 ≤ 1000000 := by omega
          rcases hsv with h | h
          · rw [if_neg (by omega)] at z2
            rw [h] at hs
            exact halves5_ne n q (q - 1) w h0 h1 hq (by omega) (by omega) hneg hr hs rfl ht (Lib.hid o1) (Lib.hid (wh 2 q (by decide) z2)) (Lib.hid (of q b)) (Lib.hid (wh 0 _ (by decide) z0)) (Lib.hid (of _ b')) (Lib.hid (wh 1 q (by decide) z1)) (Lib.hid (of q b))
          · rw [if_pos (by omega)] at z2
            rw [h] at hs
            exact halves5_no n q (q - 1) w h0 h1 hq (by omega) (by omega) hneg hr hs (by omega) rfl ht (Lib.hid o1) (Lib.hid (wh 2 _ (by decide) z2)) (Lib.hid (of _ b')) (Lib.hid (wh 0 _ (by decide) z0)) (Lib.hid (of _ b')) (Lib.hid (wh 1 q (by decide) z1)) (Lib.hid (of q b))
        · have hr1 : r = 1 := by have := rn (by omega); omega
          rw [hr1] at hr hn
          have z := fun m => whQ_half1 q m
          rw [hn] at z
          have z0 := z 0
          have z1 := z 1
          have z2 := z 2
          rw [if_pos rfl] at z0
          rw [if_neg (by decide), if_pos rfl, if_neg (by omega)] at z1
          rw [if_neg (by decide), if_neg (by decide)] at z2
          have hsv : s = 0 ∨ s = 1 := by have := sn (by omega); omega
          have b : -1000000 ≤ q ∧ q ≤ 1000000 := by omega
          have b' : -1000000 ≤ q + 1 ∧ q + 1 ≤ 1000000 := by omega
          rcases hsv with h | h
          · rw [if_pos (by omega)] at z2
            rw [h] at hs
            exact halves5_pe n q w h0 h1 hq (by omega) (by omega) hneg hr hs ht (Lib.hid o1) (Lib.hid (wh 2 q (by decide) z2)) (Lib.hid (of q b)) (Lib.hid (wh 0 q (by decide) z0)) (Lib.hid (of q b)) (Lib.hid (wh 1 q (by decide) z1)) (Lib.hid (of q b))
          · rw [if_neg (by omega)] at z2
            rw [h] at hs
            exact halves5_po n q (q + 1) w h0 h1 hq (by omega) (by omega) hneg hr hs rfl ht (Lib.hid o1) (Lib.hid (wh 2 _ (by decide) z2)) (Lib.hid (of _ b')) (Lib.hid (wh 0 q (by decide) z0)) (Lib.hid (of q b)) (Lib.hid (wh 1 q (by decide) z1)) (Lib.hid (of q b))
end Go.Proofs.YtnahepfnejdcgaaDoor
