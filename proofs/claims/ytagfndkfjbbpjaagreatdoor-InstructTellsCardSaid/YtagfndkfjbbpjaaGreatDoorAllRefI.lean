/- The document's words on one instruction: to plain functions. -/
import Derived.Test.YtagfndkfjbbpjaaGreatDoorInsNum
import Derived.Test.YtagfndkfjbbpjaaGreatDoorSch
namespace Go.Proofs.YtagfndkfjbbpjaaGreatDoor
open Go.RowKit
set_option linter.unusedSimpArgs false
set_option linter.unusedVariables false
theorem lay10 {V w : World} (h : Below V.heap.size V w) (xa xb xc xd xe xf xg xh xi xj : Value) (t : TypeId) : ∃ U, w.alloc (.cells #[xa, xb, xc, xd, xe, xf, xg, xh, xi, xj] t) = U ∧ Below V.heap.size V U ∧ w.heap.size + 1 = U.heap.size ∧
  (∀ v, Below U.heap.size U v → v.cell? ⟨w.heap.size, 0, none⟩ = some xa) ∧
  (∀ v, Below U.heap.size U v → v.cell? ⟨w.heap.size, 1, none⟩ = some xb) ∧
  (∀ v, Below U.heap.size U v → v.cell? ⟨w.heap.size, 2, none⟩ = some xc) ∧
  (∀ v, Below U.heap.size U v → v.cell? ⟨w.heap.size, 3, none⟩ = some xd) ∧
  (∀ v, Below U.heap.size U v → v.cell? ⟨w.heap.size, 4, none⟩ = some xe) ∧
  (∀ v, Below U.heap.size U v → v.cell? ⟨w.heap.size, 5, none⟩ = some xf) ∧
  (∀ v, Below U.heap.size U v → v.cell? ⟨w.heap.size, 6, none⟩ = some xg) ∧
  (∀ v, Below U.heap.size U v → v.cell? ⟨w.heap.size, 7, none⟩ = some xh) ∧
  (∀ v, Below U.heap.size U v → v.cell? ⟨w.heap.size, 8, none⟩ = some xi) ∧
  (∀ v, Below U.heap.size U v → v.cell? ⟨w.heap.size, 9, none⟩ = some xj) := by
 have k : ∀ j x, (#[xa, xb, xc, xd, xe, xf, xg, xh, xi, xj] : Array Value)[j]? = some x → ∀ v, Below (w.alloc (.cells #[xa, xb, xc, xd, xe, xf, xg, xh, xi, xj] t)).heap.size (w.alloc (.cells #[xa, xb, xc, xd, xe, xf, xg, xh, xi, xj] t)) v → v.cell? ⟨w.heap.size, j, none⟩ = some x := fun j x e v hv =>
  (hv.cell (p := ⟨w.heap.size, j, none⟩) (by simp)).trans ((cell_new w _ _ _ rfl j).trans e)
 exact ⟨_, rfl, h.alloc h.size _, by simp, k 0 xa rfl, k 1 xb rfl, k 2 xc rfl, k 3 xd rfl, k 4 xe rfl, k 5 xf rfl, k 6 xg rfl, k 7 xh rfl, k 8 xi rfl, k 9 xj rfl⟩
set_option maxRecDepth 100000 in
set_option maxHeartbeats 4000000 in
theorem one_0 {i g u : Int} {f t a qn qd pn pd : List UInt8} (h1 : i < 1) (w : World)
 :
  Calls Tryz.prog 27 #[.agg #[.int .i64 i, .int .i64 g, .int .i64 u, .string ⟨f.toArray⟩, .string ⟨t.toArray⟩, .string ⟨a.toArray⟩, .string ⟨qn.toArray⟩, .string ⟨qd.toArray⟩, .string ⟨pn.toArray⟩, .string ⟨pd.toArray⟩]] w (GiveB w (false)) := by
 have HT : Hid (NoB w) := Lib.hid (noB w)
 go_enter Tryz.func27, Tryz.ntmps27
 go_wp2_with fail
 have BW := Below.refl w.heap.size w
 have b0 : Below w.heap.size w w := Below.refl _ _
 obtain ⟨U1, hU, bU, s1, rx0, rx1, rx2, rx3, rx4, rx5, rx6, rx7, rx8, rx9⟩ := lay10 b0 (.int .i64 i) (.int .i64 g) (.int .i64 u) (.string ⟨f.toArray⟩) (.string ⟨t.toArray⟩) (.string ⟨a.toArray⟩) (.string ⟨qn.toArray⟩) (.string ⟨qd.toArray⟩) (.string ⟨pn.toArray⟩) (.string ⟨pd.toArray⟩) 37
 rw [hU]; clear hU
 clear s1
 replace BW := Below.more BW bU
 replace HT := Lib.hid (HT.out.below bU)
 clear bU
 have b1 := Below.refl U1.heap.size U1
 go_wp2_with fail
 go_ret
 exact ⟨ret_bool (by first | rfl | simp [*]), Below.more BW b1⟩
set_option maxRecDepth 100000 in
set_option maxHeartbeats 4000000 in
theorem one_1 {i g u : Int} {f t a qn qd pn pd : List UInt8} (h1 : ¬ i < 1) (h2 : g < 0) (w : World)
 :
  Calls Tryz.prog 27 #[.agg #[.int .i64 i, .int .i64 g, .int .i64 u, .string ⟨f.toArray⟩, .string ⟨t.toArray⟩, .string ⟨a.toArray⟩, .string ⟨qn.toArray⟩, .string ⟨qd.toArray⟩, .string ⟨pn.toArray⟩, .string ⟨pd.toArray⟩]] w (GiveB w (false)) := by
 have HT : Hid (NoB w) := Lib.hid (noB w)
 go_enter Tryz.func27, Tryz.ntmps27
 go_wp2_with fail
 have BW := Below.refl w.heap.size w
 have b0 : Below w.heap.size w w := Below.refl _ _
 obtain ⟨U1, hU, bU, s1, rx0, rx1, rx2, rx3, rx4, rx5, rx6, rx7, rx8, rx9⟩ := lay10 b0 (.int .i64 i) (.int .i64 g) (.int .i64 u) (.string ⟨f.toArray⟩) (.string ⟨t.toArray⟩) (.string ⟨a.toArray⟩) (.string ⟨qn.toArray⟩) (.string ⟨qd.toArray⟩) (.string ⟨pn.toArray⟩) (.string ⟨pd.toArray⟩) 37
 rw [hU]; clear hU
 clear s1
 replace BW := Below.more BW bU
 replace HT := Lib.hid (HT.out.below bU)
 clear bU
 have b1 := Below.refl U1.heap.size U1
 go_wp2_with fail
 go_ret
 exact ⟨ret_bool (by first | rfl | simp [*]), Below.more BW b1⟩
set_option maxRecDepth 100000 in
set_option maxHeartbeats 4000000 in
theorem one_2 {i g u : Int} {f t a qn qd pn pd : List UInt8} (h1 : ¬ i < 1) (h2 : ¬ g < 0) (h3 : u < g) (w : World)
 :
  Calls Tryz.prog 27 #[.agg #[.int .i64 i, .int .i64 g, .int .i64 u, .string ⟨f.toArray⟩, .string ⟨t.toArray⟩, .string ⟨a.toArray⟩, .string ⟨qn.toArray⟩, .string ⟨qd.toArray⟩, .string ⟨pn.toArray⟩, .string ⟨pd.toArray⟩]] w (GiveB w (false)) := by
 have HT : Hid (NoB w) := Lib.hid (noB w)
 go_enter Tryz.func27, Tryz.ntmps27
 go_wp2_with fail
 have BW := Below.refl w.heap.size w
 have b0 : Below w.heap.size w w := Below.refl _ _
 obtain ⟨U1, hU, bU, s1, rx0, rx1, rx2, rx3, rx4, rx5, rx6, rx7, rx8, rx9⟩ := lay10 b0 (.int .i64 i) (.int .i64 g) (.int .i64 u) (.string ⟨f.toArray⟩) (.string ⟨t.toArray⟩) (.string ⟨a.toArray⟩) (.string ⟨qn.toArray⟩) (.string ⟨qd.toArray⟩) (.string ⟨pn.toArray⟩) (.string ⟨pd.toArray⟩) 37
 rw [hU]; clear hU
 clear s1
 replace BW := Below.more BW bU
 replace HT := Lib.hid (HT.out.below bU)
 clear bU
 have b1 := Below.refl U1.heap.size U1
 go_wp2_with fail
 go_ret
 exact ⟨ret_bool (by first | rfl | simp [*]), Below.more BW b1⟩
set_option maxRecDepth 100000 in
set_option maxHeartbeats 4000000 in
theorem one_3 {i g u : Int} {f t a qn qd pn pd : List UInt8} (h1 : ¬ i < 1) (h2 : ¬ g < 0) (h3 : ¬ u < g)  (w : World)
  (CF : Hid (∀ w, Calls Tryz.prog 50 #[.string ⟨f.toArray⟩] w (GiveB w false))) :
  Calls Tryz.prog 27 #[.agg #[.int .i64 i, .int .i64 g, .int .i64 u, .string ⟨f.toArray⟩, .string ⟨t.toArray⟩, .string ⟨a.toArray⟩, .string ⟨qn.toArray⟩, .string ⟨qd.toArray⟩, .string ⟨pn.toArray⟩, .string ⟨pd.toArray⟩]] w (GiveB w (false)) := by
 have HT : Hid (NoB w) := Lib.hid (noB w)
 go_enter Tryz.func27, Tryz.ntmps27
 go_wp2_with fail
 have BW := Below.refl w.heap.size w
 have b0 : Below w.heap.size w w := Below.refl _ _
 obtain ⟨U1, hU, bU, s1, rx0, rx1, rx2, rx3, rx4, rx5, rx6, rx7, rx8, rx9⟩ := lay10 b0 (.int .i64 i) (.int .i64 g) (.int .i64 u) (.string ⟨f.toArray⟩) (.string ⟨t.toArray⟩) (.string ⟨a.toArray⟩) (.string ⟨qn.toArray⟩) (.string ⟨qd.toArray⟩) (.string ⟨pn.toArray⟩) (.string ⟨pd.toArray⟩) 37
 rw [hU]; clear hU
 clear s1
 replace BW := Below.more BW bU
 replace HT := Lib.hid (HT.out.below bU)
 clear bU
 have b1 := Below.refl U1.heap.size U1
 go_wp2_with fail
 refine (CF.out _).mono ?_
 rintro e w2 ⟨rfl, b⟩
 have b2 := Below.more b1 b
 clear b
 go_wp2_with fail
 go_ret
 exact ⟨ret_bool (by first | rfl | simp [*]), Below.more BW b2⟩
set_option maxRecDepth 100000 in
set_option maxHeartbeats 4000000 in
theorem one_4 {i g u : Int} {f t a qn qd pn pd : List UInt8} (h1 : ¬ i < 1) (h2 : ¬ g < 0) (h3 : ¬ u < g)  (w : World)
  (CF : Hid (∀ w, Calls Tryz.prog 50 #[.string ⟨f.toArray⟩] w (GiveB w true)))
  (CT : Hid (∀ w, Calls Tryz.prog 50 #[.string ⟨t.toArray⟩] w (GiveB w false))) :
  Calls Tryz.prog 27 #[.agg #[.int .i64 i, .int .i64 g, .int .i64 u, .string ⟨f.toArray⟩, .string ⟨t.toArray⟩, .string ⟨a.toArray⟩, .string ⟨qn.toArray⟩, .string ⟨qd.toArray⟩, .string ⟨pn.toArray⟩, .string ⟨pd.toArray⟩]] w (GiveB w (false)) := by
 have HT : Hid (NoB w) := Lib.hid (noB w)
 go_enter Tryz.func27, Tryz.ntmps27
 go_wp2_with fail
 have BW := Below.refl w.heap.size w
 have b0 : Below w.heap.size w w := Below.refl _ _
 obtain ⟨U1, hU, bU, s1, rx0, rx1, rx2, rx3, rx4, rx5, rx6, rx7, rx8, rx9⟩ := lay10 b0 (.int .i64 i) (.int .i64 g) (.int .i64 u) (.string ⟨f.toArray⟩) (.string ⟨t.toArray⟩) (.string ⟨a.toArray⟩) (.string ⟨qn.toArray⟩) (.string ⟨qd.toArray⟩) (.string ⟨pn.toArray⟩) (.string ⟨pd.toArray⟩) 37
 rw [hU]; clear hU
 clear s1
 replace BW := Below.more BW bU
 replace HT := Lib.hid (HT.out.below bU)
 clear bU
 have b1 := Below.refl U1.heap.size U1
 go_wp2_with fail
 refine (CF.out _).mono ?_
 rintro e w2 ⟨rfl, b⟩
 have b2 := Below.more b1 b
 clear b
 go_wp2_with fail
 refine (CT.out _).mono ?_
 rintro e w3 ⟨rfl, b⟩
 have b3 := Below.more b2 b
 clear b
 go_wp2_with fail
 go_ret
 exact ⟨ret_bool (by first | rfl | simp [*]), Below.more BW b3⟩
set_option maxRecDepth 100000 in
set_option maxHeartbeats 4000000 in
theorem one_5 {i g u : Int} {f t a qn qd pn pd : List UInt8} (h1 : ¬ i < 1) (h2 : ¬ g < 0) (h3 : ¬ u < g)  (w : World)
  (CF : Hid (∀ w, Calls Tryz.prog 50 #[.string ⟨f.toArray⟩] w (GiveB w true)))
  (CT : Hid (∀ w, Calls Tryz.prog 50 #[.string ⟨t.toArray⟩] w (GiveB w true)))
  (CA : Hid (∀ w, Calls Tryz.prog 50 #[.string ⟨a.toArray⟩] w (GiveB w false))) :
  Calls Tryz.prog 27 #[.agg #[.int .i64 i, .int .i64 g, .int .i64 u, .string ⟨f.toArray⟩, .string ⟨t.toArray⟩, .string ⟨a.toArray⟩, .string ⟨qn.toArray⟩, .string ⟨qd.toArray⟩, .string ⟨pn.toArray⟩, .string ⟨pd.toArray⟩]] w (GiveB w (false)) := by
 have HT : Hid (NoB w) := Lib.hid (noB w)
 go_enter Tryz.func27, Tryz.ntmps27
 go_wp2_with fail
 have BW := Below.refl w.heap.size w
 have b0 : Below w.heap.size w w := Below.refl _ _
 obtain ⟨U1, hU, bU, s1, rx0, rx1, rx2, rx3, rx4, rx5, rx6, rx7, rx8, rx9⟩ := lay10 b0 (.int .i64 i) (.int .i64 g) (.int .i64 u) (.string ⟨f.toArray⟩) (.string ⟨t.toArray⟩) (.string ⟨a.toArray⟩) (.string ⟨qn.toArray⟩) (.string ⟨qd.toArray⟩) (.string ⟨pn.toArray⟩) (.string ⟨pd.toArray⟩) 37
 rw [hU]; clear hU
 clear s1
 replace BW := Below.more BW bU
 replace HT := Lib.hid (HT.out.below bU)
 clear bU
 have b1 := Below.refl U1.heap.size U1
 go_wp2_with fail
 refine (CF.out _).mono ?_
 rintro e w2 ⟨rfl, b⟩
 have b2 := Below.more b1 b
 clear b
 go_wp2_with fail
 refine (CT.out _).mono ?_
 rintro e w3 ⟨rfl, b⟩
 have b3 := Below.more b2 b
 clear b
 go_wp2_with fail
 refine (CA.out _).mono ?_
 rintro e w4 ⟨rfl, b⟩
 have b4 := Below.more b3 b
 clear b
 go_wp2_with fail
 go_ret
 exact ⟨ret_bool (by first | rfl | simp [*]), Below.more BW b4⟩
set_option maxRecDepth 100000 in
set_option maxHeartbeats 4000000 in
theorem one_6 {i g u : Int} {f t a qn qd pn pd : List UInt8} (h1 : ¬ i < 1) (h2 : ¬ g < 0) (h3 : ¬ u < g) (h4 : (f == t) = true) (w : World)
  (CF : Hid (∀ w, Calls Tryz.prog 50 #[.string ⟨f.toArray⟩] w (GiveB w true)))
  (CT : Hid (∀ w, Calls Tryz.prog 50 #[.string ⟨t.toArray⟩] w (GiveB w true)))
  (CA : Hid (∀ w, Calls Tryz.prog 50 #[.string ⟨a.toArray⟩] w (GiveB w true))) :
  Calls Tryz.prog 27 #[.agg #[.int .i64 i, .int .i64 g, .int .i64 u, .string ⟨f.toArray⟩, .string ⟨t.toArray⟩, .string ⟨a.toArray⟩, .string ⟨qn.toArray⟩, .string ⟨qd.toArray⟩, .string ⟨pn.toArray⟩, .string ⟨pd.toArray⟩]] w (GiveB w (false)) := by
 have HT : Hid (NoB w) := Lib.hid (noB w)
 go_enter Tryz.func27, Tryz.ntmps27
 go_wp2_with fail
 have BW := Below.refl w.heap.size w
 have b0 : Below w.heap.size w w := Below.refl _ _
 obtain ⟨U1, hU, bU, s1, rx0, rx1, rx2, rx3, rx4, rx5, rx6, rx7, rx8, rx9⟩ := lay10 b0 (.int .i64 i) (.int .i64 g) (.int .i64 u) (.string ⟨f.toArray⟩) (.string ⟨t.toArray⟩) (.string ⟨a.toArray⟩) (.string ⟨qn.toArray⟩) (.string ⟨qd.toArray⟩) (.string ⟨pn.toArray⟩) (.string ⟨pd.toArray⟩) 37
 rw [hU]; clear hU
 clear s1
 replace BW := Below.more BW bU
 replace HT := Lib.hid (HT.out.below bU)
 clear bU
 have b1 := Below.refl U1.heap.size U1
 go_wp2_with fail
 refine (CF.out _).mono ?_
 rintro e w2 ⟨rfl, b⟩
 have b2 := Below.more b1 b
 clear b
 go_wp2_with fail
 refine (CT.out _).mono ?_
 rintro e w3 ⟨rfl, b⟩
 have b3 := Below.more b2 b
 clear b
 go_wp2_with fail
 refine (CA.out _).mono ?_
 rintro e w4 ⟨rfl, b⟩
 have b4 := Below.more b3 b
 clear b
 go_wp2_with fail
 go_ret
 exact ⟨ret_bool (by first | rfl | simp [*]), Below.more BW b4⟩
set_option maxRecDepth 100000 in
set_option maxHeartbeats 4000000 in
theorem one_7 {i g u : Int} {f t a qn qd pn pd : List UInt8} (h1 : ¬ i < 1) (h2 : ¬ g < 0) (h3 : ¬ u < g) (h4 : (f == t) = false) {sq : Int} (h5 : ¬ 0 < sq) (w : World)
  (CF : Hid (∀ w, Calls Tryz.prog 50 #[.string ⟨f.toArray⟩] w (GiveB w true)))
  (CT : Hid (∀ w, Calls Tryz.prog 50 #[.string ⟨t.toArray⟩] w (GiveB w true)))
  (CA : Hid (∀ w, Calls Tryz.prog 50 #[.string ⟨a.toArray⟩] w (GiveB w true)))
  (CQ : Hid (∀ w, Calls Tryz.prog 24 #[.agg #[.string ⟨qn.toArray⟩, .string ⟨qd.toArray⟩]] w (GiveI w sq))) :
  Calls Tryz.prog 27 #[.agg #[.int .i64 i, .int .i64 g, .int .i64 u, .string ⟨f.toArray⟩, .string ⟨t.toArray⟩, .string ⟨a.toArray⟩, .string ⟨qn.toArray⟩, .string ⟨qd.toArray⟩, .string ⟨pn.toArray⟩, .string ⟨pd.toArray⟩]] w (GiveB w (false)) := by
 have HT : Hid (NoB w) := Lib.hid (noB w)
 go_enter Tryz.func27, Tryz.ntmps27
 go_wp2_with fail
 have BW := Below.refl w.heap.size w
 have b0 : Below w.heap.size w w := Below.refl _ _
 obtain ⟨U1, hU, bU, s1, rx0, rx1, rx2, rx3, rx4, rx5, rx6, rx7, rx8, rx9⟩ := lay10 b0 (.int .i64 i) (.int .i64 g) (.int .i64 u) (.string ⟨f.toArray⟩) (.string ⟨t.toArray⟩) (.string ⟨a.toArray⟩) (.string ⟨qn.toArray⟩) (.string ⟨qd.toArray⟩) (.string ⟨pn.toArray⟩) (.string ⟨pd.toArray⟩) 37
 rw [hU]; clear hU
 clear s1
 replace BW := Below.more BW bU
 replace HT := Lib.hid (HT.out.below bU)
 clear bU
 have b1 := Below.refl U1.heap.size U1
 go_wp2_with fail
 refine (CF.out _).mono ?_
 rintro e w2 ⟨rfl, b⟩
 have b2 := Below.more b1 b
 clear b
 go_wp2_with fail
 refine (CT.out _).mono ?_
 rintro e w3 ⟨rfl, b⟩
 have b3 := Below.more b2 b
 clear b
 go_wp2_with fail
 refine (CA.out _).mono ?_
 rintro e w4 ⟨rfl, b⟩
 have b4 := Below.more b3 b
 clear b
 go_wp2_with fail
 refine (CQ.out _).mono ?_
 rintro e w5 ⟨rfl, b⟩
 have b5 := Below.more b4 b
 clear b
 go_wp2_with fail
 go_ret
 exact ⟨ret_bool (by first | rfl | simp [*]), Below.more BW b5⟩
set_option maxRecDepth 100000 in
set_option maxHeartbeats 4000000 in
theorem one_8 {i g u : Int} {f t a qn qd pn pd : List UInt8} (h1 : ¬ i < 1) (h2 : ¬ g < 0) (h3 : ¬ u < g) (h4 : (f == t) = false) {sq : Int} (h5 : 0 < sq)  (w : World)
  (CF : Hid (∀ w, Calls Tryz.prog 50 #[.string ⟨f.toArray⟩] w (GiveB w true)))
  (CT : Hid (∀ w, Calls Tryz.prog 50 #[.string ⟨t.toArray⟩] w (GiveB w true)))
  (CA : Hid (∀ w, Calls Tryz.prog 50 #[.string ⟨a.toArray⟩] w (GiveB w true)))
  (CQ : Hid (∀ w, Calls Tryz.prog 24 #[.agg #[.string ⟨qn.toArray⟩, .string ⟨qd.toArray⟩]] w (GiveI w sq)))
  (CM : Hid (∀ w, Calls Tryz.prog 47 #[.agg #[.string ⟨pn.toArray⟩, .string ⟨pd.toArray⟩]] w (GiveB w false))) :
  Calls Tryz.prog 27 #[.agg #[.int .i64 i, .int .i64 g, .int .i64 u, .string ⟨f.toArray⟩, .string ⟨t.toArray⟩, .string ⟨a.toArray⟩, .string ⟨qn.toArray⟩, .string ⟨qd.toArray⟩, .string ⟨pn.toArray⟩, .string ⟨pd.toArray⟩]] w (GiveB w (false)) := by
 have HT : Hid (NoB w) := Lib.hid (noB w)
 go_enter Tryz.func27, Tryz.ntmps27
 go_wp2_with fail
 have BW := Below.refl w.heap.size w
 have b0 : Below w.heap.size w w := Below.refl _ _
 obtain ⟨U1, hU, bU, s1, rx0, rx1, rx2, rx3, rx4, rx5, rx6, rx7, rx8, rx9⟩ := lay10 b0 (.int .i64 i) (.int .i64 g) (.int .i64 u) (.string ⟨f.toArray⟩) (.string ⟨t.toArray⟩) (.string ⟨a.toArray⟩) (.string ⟨qn.toArray⟩) (.string ⟨qd.toArray⟩) (.string ⟨pn.toArray⟩) (.string ⟨pd.toArray⟩) 37
 rw [hU]; clear hU
 clear s1
 replace BW := Below.more BW bU
 replace HT := Lib.hid (HT.out.below bU)
 clear bU
 have b1 := Below.refl U1.heap.size U1
 go_wp2_with fail
 refine (CF.out _).mono ?_
 rintro e w2 ⟨rfl, b⟩
 have b2 := Below.more b1 b
 clear b
 go_wp2_with fail
 refine (CT.out _).mono ?_
 rintro e w3 ⟨rfl, b⟩
 have b3 := Below.more b2 b
 clear b
 go_wp2_with fail
 refine (CA.out _).mono ?_
 rintro e w4 ⟨rfl, b⟩
 have b4 := Below.more b3 b
 clear b
 go_wp2_with fail
 refine (CQ.out _).mono ?_
 rintro e w5 ⟨rfl, b⟩
 have b5 := Below.more b4 b
 clear b
 go_wp2_with fail
 refine (CM.out _).mono ?_
 rintro e w6 ⟨rfl, b⟩
 have b6 := Below.more b5 b
 clear b
 go_wp2_with fail
 go_ret
 exact ⟨ret_bool (by first | rfl | simp [*]), Below.more BW b6⟩
set_option maxRecDepth 100000 in
set_option maxHeartbeats 4000000 in
theorem one_9 {i g u : Int} {f t a qn qd pn pd : List UInt8} (h1 : ¬ i < 1) (h2 : ¬ g < 0) (h3 : ¬ u < g) (h4 : (f == t) = false) {sq : Int} (h5 : 0 < sq) {sp : Int} (w : World)
  (CF : Hid (∀ w, Calls Tryz.prog 50 #[.string ⟨f.toArray⟩] w (GiveB w true)))
  (CT : Hid (∀ w, Calls Tryz.prog 50 #[.string ⟨t.toArray⟩] w (GiveB w true)))
  (CA : Hid (∀ w, Calls Tryz.prog 50 #[.string ⟨a.toArray⟩] w (GiveB w true)))
  (CQ : Hid (∀ w, Calls Tryz.prog 24 #[.agg #[.string ⟨qn.toArray⟩, .string ⟨qd.toArray⟩]] w (GiveI w sq)))
  (CM : Hid (∀ w, Calls Tryz.prog 47 #[.agg #[.string ⟨pn.toArray⟩, .string ⟨pd.toArray⟩]] w (GiveB w true)))
  (CP : Hid (∀ w, Calls Tryz.prog 24 #[.agg #[.string ⟨pn.toArray⟩, .string ⟨pd.toArray⟩]] w (GiveI w sp))) :
  Calls Tryz.prog 27 #[.agg #[.int .i64 i, .int .i64 g, .int .i64 u, .string ⟨f.toArray⟩, .string ⟨t.toArray⟩, .string ⟨a.toArray⟩, .string ⟨qn.toArray⟩, .string ⟨qd.toArray⟩, .string ⟨pn.toArray⟩, .string ⟨pd.toArray⟩]] w (GiveB w (decide (0 ≤ sp))) := by
 have HT : Hid (NoB w) := Lib.hid (noB w)
 go_enter Tryz.func27, Tryz.ntmps27
 go_wp2_with fail
 have BW := Below.refl w.heap.size w
 have b0 : Below w.heap.size w w := Below.refl _ _
 obtain ⟨U1, hU, bU, s1, rx0, rx1, rx2, rx3, rx4, rx5, rx6, rx7, rx8, rx9⟩ := lay10 b0 (.int .i64 i) (.int .i64 g) (.int .i64 u) (.string ⟨f.toArray⟩) (.string ⟨t.toArray⟩) (.string ⟨a.toArray⟩) (.string ⟨qn.toArray⟩) (.string ⟨qd.toArray⟩) (.string ⟨pn.toArray⟩) (.string ⟨pd.toArray⟩) 37
 rw [hU]; clear hU
 clear s1
 replace BW := Below.more BW bU
 replace HT := Lib.hid (HT.out.below bU)
 clear bU
 have b1 := Below.refl U1.heap.size U1
 go_wp2_with fail
 refine (CF.out _).mono ?_
 rintro e w2 ⟨rfl, b⟩
 have b2 := Below.more b1 b
 clear b
 go_wp2_with fail
 refine (CT.out _).mono ?_
 rintro e w3 ⟨rfl, b⟩
 have b3 := Below.more b2 b
 clear b
 go_wp2_with fail
 refine (CA.out _).mono ?_
 rintro e w4 ⟨rfl, b⟩
 have b4 := Below.more b3 b
 clear b
 go_wp2_with fail
 refine (CQ.out _).mono ?_
 rintro e w5 ⟨rfl, b⟩
 have b5 := Below.more b4 b
 clear b
 go_wp2_with fail
 refine (CM.out _).mono ?_
 rintro e w6 ⟨rfl, b⟩
 have b6 := Below.more b5 b
 clear b
 go_wp2_with fail
 refine (CP.out _).mono ?_
 rintro e w7 ⟨rfl, b⟩
 have b7 := Below.more b6 b
 clear b
 go_wp2_with fail
 go_ret
 exact ⟨ret_bool (by first | rfl | simp [*]), Below.more BW b7⟩
def SzI (x : In) : Prop := (x.frm.length ≤ 4611686018427387904 ∧ x.dst.length ≤ 4611686018427387904 ∧ x.ast.length ≤ 4611686018427387904) ∧ (x.q.1.length ≤ 20000 ∧ x.q.2.length ≤ 20000) ∧ x.pay.1.length ≤ 20000 ∧ x.pay.2.length ≤ 20000
theorem rione_any {i g u : Int} {f t a qn qd pn pd : List UInt8} (w : World) (hz : SzI (In.mk i g u f t a (qn, qd) (pn, pd))) :
  Calls Tryz.prog 27 #[.agg #[.int .i64 i, .int .i64 g, .int .i64 u, .string ⟨f.toArray⟩, .string ⟨t.toArray⟩, .string ⟨a.toArray⟩, .string ⟨qn.toArray⟩, .string ⟨qd.toArray⟩, .string ⟨pn.toArray⟩, .string ⟨pd.toArray⟩]] w (GiveB w (oneB (In.mk i g u f t a (qn, qd) (pn, pd)))) := by
 obtain ⟨⟨z1, z2, z3⟩, ⟨z4, z5⟩, z6, z7⟩ := hz
 dsimp only at z1 z2 z3 z4 z5 z6 z7
 have cn : ∀ (s : List UInt8), s.length ≤ 4611686018427387904 → ∀ w, Calls Tryz.prog 50 #[.string ⟨s.toArray⟩] w (GiveB w (isName s)) := fun s hs w => calm (rbname_any ⟨s.toArray⟩ w (by rw [size_of]; exact hs))
 have cf := cn f z1; have ct := cn t z2; have ca := cn a z3
 have cq : ∀ w, Calls Tryz.prog 24 #[.agg #[.string ⟨qn.toArray⟩, .string ⟨qd.toArray⟩]] w (GiveI w (sgnR (qn, qd))) := fun w => rqsign_any ⟨qn.toArray⟩ ⟨qd.toArray⟩ w (by rw [size_of]; omega) (by rw [size_of]; omega)
 have cm : ∀ w, Calls Tryz.prog 47 #[.agg #[.string ⟨pn.toArray⟩, .string ⟨pd.toArray⟩]] w (GiveB w (isR (pn, pd))) := fun w => rqmay_any ⟨pn.toArray⟩ ⟨pd.toArray⟩ w (by rw [size_of]; omega) (by rw [size_of]; omega)
 have cp : ∀ w, Calls Tryz.prog 24 #[.agg #[.string ⟨pn.toArray⟩, .string ⟨pd.toArray⟩]] w (GiveI w (sgnR (pn, pd))) := fun w => rqsign_any ⟨pn.toArray⟩ ⟨pd.toArray⟩ w (by rw [size_of]; omega) (by rw [size_of]; omega)
 have e : oneB (In.mk i g u f t a (qn, qd) (pn, pd)) = ((!decide (i < 1) && (!decide (g < 0) && (!decide (u < g) && (isName f && (isName t && (isName a && !(f == t))))))) && (decide (0 < sgnR (qn, qd)) && (isR (pn, pd) && decide (0 ≤ sgnR (pn, pd))))) := rfl
 rw [e]
 clear e
 by_cases h1 : i < 1
 ·rw [decide_eq_true h1]; exact one_0 h1 w
 rw [decide_eq_false h1]
 by_cases h2 : g < 0
 ·rw [decide_eq_true h2]; exact one_1 h1 h2 w
 rw [decide_eq_false h2]
 by_cases h3 : u < g
 ·rw [decide_eq_true h3]; exact one_2 h1 h2 h3 w
 rw [decide_eq_false h3]
 cases n1 : isName f with
 | false => rw [n1] at cf; exact one_3 h1 h2 h3 w (Lib.hid cf)
 | true =>
 rw [n1] at cf
 cases n2 : isName t with
 | false => rw [n2] at ct; exact one_4 h1 h2 h3 w (Lib.hid cf) (Lib.hid ct)
 | true =>
 rw [n2] at ct
 cases n3 : isName a with
 | false => rw [n3] at ca; exact one_5 h1 h2 h3 w (Lib.hid cf) (Lib.hid ct) (Lib.hid ca)
 | true =>
 rw [n3] at ca
 cases h4 : f == t with
 | true => exact one_6 h1 h2 h3 h4 w (Lib.hid cf) (Lib.hid ct) (Lib.hid ca)
 | false =>
 by_cases h5 : 0 < sgnR (qn, qd)
 ·rw [decide_eq_true h5]
  cases n4 : isR (pn, pd) with
  | false => rw [n4] at cm; exact one_8 h1 h2 h3 h4 h5 w (Lib.hid cf) (Lib.hid ct) (Lib.hid ca) (Lib.hid cq) (Lib.hid cm)
  | true => rw [n4] at cm; exact one_9 h1 h2 h3 h4 h5 w (Lib.hid cf) (Lib.hid ct) (Lib.hid ca) (Lib.hid cq) (Lib.hid cm) (Lib.hid cp)
 ·rw [decide_eq_false h5]; exact one_7 h1 h2 h3 h4 h5 w (Lib.hid cf) (Lib.hid ct) (Lib.hid ca) (Lib.hid cq)
end Go.Proofs.YtagfndkfjbbpjaaGreatDoor
/- Rows of instructions in memory; the document's words on them. -/
namespace Go.Proofs.YtagfndkfjbbpjaaGreatDoor
open Go.RowKit
set_option linter.unusedSimpArgs false
set_option linter.unusedVariables false
def Ins (w : World) (p : Option Addr) (l : List In) : Prop := ∀ (j : Nat) (x : In), l[j]? = some x → ∃ b o, p = some ⟨b, o, none⟩ ∧ b < w.heap.size ∧ w.cell? ⟨b, o + j * 10, none⟩ = some (.int .i64 x.id) ∧ w.cell? ⟨b, o + j * 10 + 1, none⟩ = some (.int .i64 x.dealt) ∧ w.cell? ⟨b, o + j * 10 + 2, none⟩ = some (.int .i64 x.due) ∧ w.cell? ⟨b, o + j * 10 + 3, none⟩ = some (.string ⟨x.frm.toArray⟩) ∧ w.cell? ⟨b, o + j * 10 + 4, none⟩ = some (.string ⟨x.dst.toArray⟩) ∧ w.cell? ⟨b, o + j * 10 + 5, none⟩ = some (.string ⟨x.ast.toArray⟩) ∧ w.cell? ⟨b, o + j * 10 + 6, none⟩ = some (.string ⟨x.q.1.toArray⟩) ∧ w.cell? ⟨b, o + j * 10 + 7, none⟩ = some (.string ⟨x.q.2.toArray⟩) ∧ w.cell? ⟨b, o + j * 10 + 8, none⟩ = some (.string ⟨x.pay.1.toArray⟩) ∧ w.cell? ⟨b, o + j * 10 + 9, none⟩ = some (.string ⟨x.pay.2.toArray⟩)
theorem Ins.below {w w' : World} {p : Option Addr} {l : List In} (h : Ins w p l) (hb : Below w.heap.size w w') : Ins w' p l := fun j x hx => by
 obtain ⟨b, o, hp, hl, c0, c1, c2, c3, c4, c5, c6, c7, c8, c9⟩ := h j x hx
 exact ⟨b, o, hp, Nat.lt_of_lt_of_le hl hb.size, (hb.cell (p := ⟨b, _, none⟩) hl).trans c0, (hb.cell (p := ⟨b, _, none⟩) hl).trans c1, (hb.cell (p := ⟨b, _, none⟩) hl).trans c2, (hb.cell (p := ⟨b, _, none⟩) hl).trans c3, (hb.cell (p := ⟨b, _, none⟩) hl).trans c4, (hb.cell (p := ⟨b, _, none⟩) hl).trans c5, (hb.cell (p := ⟨b, _, none⟩) hl).trans c6, (hb.cell (p := ⟨b, _, none⟩) hl).trans c7, (hb.cell (p := ⟨b, _, none⟩) hl).trans c8, (hb.cell (p := ⟨b, _, none⟩) hl).trans c9⟩
theorem Ins.rule {w : World} {p : Option Addr} {l : List In} (h : Ins w p l) {k : Nat} {i g u : Int} {f t a qn qd pn pd : List UInt8} (hx : l[k]? = some (In.mk i g u f t a (qn, qd) (pn, pd))) : ∃ b o, p = some ⟨b, o, none⟩ ∧ (∀ v, Below w.heap.size w v → v.cell? ⟨b, o + k * 10, none⟩ = some (.int .i64 i)) ∧ (∀ v, Below w.heap.size w v → v.cell? ⟨b, o + k * 10 + 1, none⟩ = some (.int .i64 g)) ∧ (∀ v, Below w.heap.size w v → v.cell? ⟨b, o + k * 10 + 2, none⟩ = some (.int .i64 u)) ∧ (∀ v, Below w.heap.size w v → v.cell? ⟨b, o + k * 10 + 3, none⟩ = some (.string ⟨f.toArray⟩)) ∧ (∀ v, Below w.heap.size w v → v.cell? ⟨b, o + k * 10 + 4, none⟩ = some (.string ⟨t.toArray⟩)) ∧ (∀ v, Below w.heap.size w v → v.cell? ⟨b, o + k * 10 + 5, none⟩ = some (.string ⟨a.toArray⟩)) ∧ (∀ v, Below w.heap.size w v → v.cell? ⟨b, o + k * 10 + 6, none⟩ = some (.string ⟨qn.toArray⟩)) ∧ (∀ v, Below w.heap.size w v → v.cell? ⟨b, o + k * 10 + 7, none⟩ = some (.string ⟨qd.toArray⟩)) ∧ (∀ v, Below w.heap.size w v → v.cell? ⟨b, o + k * 10 + 8, none⟩ = some (.string ⟨pn.toArray⟩)) ∧ (∀ v, Below w.heap.size w v → v.cell? ⟨b, o + k * 10 + 9, none⟩ = some (.string ⟨pd.toArray⟩)) := by
 obtain ⟨b, o, hp, hl, c0, c1, c2, c3, c4, c5, c6, c7, c8, c9⟩ := h k _ hx
 exact ⟨b, o, hp, fun v hb => (hb.cell (p := ⟨b, _, none⟩) hl).trans c0, fun v hb => (hb.cell (p := ⟨b, _, none⟩) hl).trans c1, fun v hb => (hb.cell (p := ⟨b, _, none⟩) hl).trans c2, fun v hb => (hb.cell (p := ⟨b, _, none⟩) hl).trans c3, fun v hb => (hb.cell (p := ⟨b, _, none⟩) hl).trans c4, fun v hb => (hb.cell (p := ⟨b, _, none⟩) hl).trans c5, fun v hb => (hb.cell (p := ⟨b, _, none⟩) hl).trans c6, fun v hb => (hb.cell (p := ⟨b, _, none⟩) hl).trans c7, fun v hb => (hb.cell (p := ⟨b, _, none⟩) hl).trans c8, fun v hb => (hb.cell (p := ⟨b, _, none⟩) hl).trans c9⟩
theorem Ins.nil (w : World) (p : Option Addr) : Ins w p [] := fun j x h => by cases h
theorem find_from : ∀ {l : List In} {n : Int} {k m : Nat} {x : In}, l[k]? = some x → x.id = n → (∀ j y, j < k → l[j]? = some y → y.id ≠ n) → findI l n m = ((m + k : Nat) : Int)
 | [], _, _, _, _, h, _, _ => by cases h
 | y :: r, n, 0, m, x, h, e, _ => by
  obtain rfl := Option.some.inj (show some y = some x from h)
  unfold findI; rw [if_pos e]; rfl
 | y :: r, n, k + 1, m, x, h, e, hn => by
  unfold findI
  rw [if_neg (hn 0 y (Nat.succ_pos k) rfl), find_from (l := r) (k := k) (m := m + 1) h e fun j z hj hz => hn (j + 1) z (by omega) hz]
  congr 1; omega
theorem find_at {l : List In} {n : Int} {k : Nat} {x : In} (hx : l[k]? = some x) (e : x.id = n) (h : ∀ j y, j < k → l[j]? = some y → y.id ≠ n) : findI l n 0 = (k : Int) := by
 rw [find_from hx e h, Nat.zero_add]
theorem find_none {l : List In} {n : Int} (h : ∀ j y, j < l.length → l[j]? = some y → y.id ≠ n) : findI l n 0 = -1 := find_no fun ⟨x, hx, e⟩ => by
 obtain ⟨j, hj, e2⟩ := List.getElem_of_mem hx
 exact h j x hj (by rw [List.getElem?_eq_getElem hj, e2]) e
theorem moreI {l : List In} {P : In → Prop} {k : Nat} {z : In} (h : ∀ (j : Nat) (y : In), j < k → l[j]? = some y → P y) (hz : l[k]? = some z) (hp : P z) : ∀ (j : Nat) (y : In), j < k + 1 → l[j]? = some y → P y := fun j y hj hy => by
 by_cases e : j = k
 ·subst e
  rw [hz] at hy
  exact Option.some.inj hy ▸ hp
 ·exact h j y (by omega) hy
set_option maxRecDepth 100000 in
set_option maxHeartbeats 4000000 in
theorem rifind_any (p : Option Addr) (c : Nat) (l : List In) (n : Int) (w : World) (hl : l.length ≤ 4611686018427387904) (h : Ins w p l) :
  Calls Tryz.prog 21 #[.slice p l.length c, .int .i64 n] w (GiveI w (findI l n 0)) := by
 have HS := Lib.hid h; clear h
 go_enter Tryz.func21, Tryz.ntmps21
 go_wp2
 go_loopw [5] (fun x wr => ∃ k : Nat, k ≤ l.length ∧ x = .int .i64 k ∧ Hid (∀ (j : Nat) (y : In), j < k → l[j]? = some y → y.id ≠ n) ∧ Below w.heap.size w wr) (fun x _ => l.length - (intOf x).toNat)
 case atStart => exact ⟨0, Nat.zero_le _, rfl, fun j x h => absurd h (Nat.not_lt_zero j), Below.refl _ _⟩
 case round =>
  obtain ⟨k, hk, rfl, HJ, hw⟩ := hrel
  by_cases hlt : k < l.length
  ·obtain ⟨⟨i, g, u, f, t, a, ⟨qn, qd⟩, ⟨pn, pd⟩⟩, hx⟩ : ∃ x, l[k]? = some x := ⟨_, List.getElem?_eq_getElem hlt⟩
   obtain ⟨b, o, rfl, k0, _⟩ := (HS.out.below hw).rule hx
   have HW := Lib.hid hw
   have b0 := Below.refl wr.heap.size wr
   by_cases e : i = n
   ·have HO := Lib.hid (find_at hx e HJ.out)
    subst e
    clear hx hw
    go_wp2_with fail
    go_ret
    exact ⟨by rw [HO.out]; rfl, HW.out⟩
   ·have HO := Lib.hid (moreI (P := fun y => y.id ≠ n) HJ.out hx e)
    clear hx hw
    go_wp2_with fail
    go_roundw
    case rel => exact ⟨k + 1, hlt, by go_num, HO, HW.out⟩
    case measure => simp [intOf]; omega
  ·obtain rfl : k = l.length := by omega
   have HO := Lib.hid (find_none HJ.out); have HW := Lib.hid hw
   clear hw
   go_wp2_with fail
   go_ret
   exact ⟨by rw [HO.out]; rfl, HW.out⟩
theorem okIn_no {l : List In} {k : Nat} {x : In} (hx : l[k]? = some x) (h : oneB x = false) : okIn l k = false := by
 unfold okIn; rw [hx]
 show (oneB x && _) = false
 rw [h, Bool.false_and]
theorem okIn_0 {l : List In} {x : In} (hx : l[0]? = some x) (h : oneB x = true) : okIn l 0 = true := by
 unfold okIn; rw [hx]
 show (oneB x && _) = true
 rw [h]; rfl
theorem okIn_s {l : List In} {m : Nat} {x y : In} (hx : l[m + 1]? = some x) (hy : l[m]? = some y) (h : oneB x = true) : okIn l (m + 1) = decide (y.id < x.id) := by
 unfold okIn; rw [hx]
 show (oneB x && (decide (m + 1 = 0) || (match l[m + 1 - 1]? with | some y => decide (y.id < x.id) | none => false))) = _
 rw [h, decide_eq_false (Nat.succ_ne_zero m), Nat.add_sub_cancel, hy]; rfl
set_option maxRecDepth 100000 in
set_option maxHeartbeats 4000000 in
theorem rimay_any (p : Option Addr) (c : Nat) (l : List In) (w : World) (hl : l.length ≤ 4611686018427387904) (hz : ∀ x ∈ l, SzI x) (h : Ins w p l) :
  Calls Tryz.prog 17 #[.slice p l.length c] w (GiveB w (mayI l)) := by
 have HS := Lib.hid h; have HZ := Lib.hid hz; clear h hz
 go_enter Tryz.func17, Tryz.ntmps17
 go_wp2
 go_loopw [3] (fun i wr => ∃ k : Nat, k ≤ l.length ∧ i = .int .i64 k ∧ Hid (∀ j, j < k → okIn l j = true) ∧ Below w.heap.size w wr) (fun i _ => l.length - (intOf i).toNat)
 case atStart => exact ⟨0, Nat.zero_le _, rfl, fun j h => absurd h (Nat.not_lt_zero j), Below.refl _ _⟩
 case round =>
  obtain ⟨k, hk, rfl, HJ, hw⟩ := hrel
  by_cases hlt : k < l.length
  ·obtain ⟨⟨i, g, u, f, t, a, ⟨qn, qd⟩, ⟨pn, pd⟩⟩, hx⟩ : ∃ x, l[k]? = some x := ⟨_, List.getElem?_eq_getElem hlt⟩
   obtain ⟨b, o, rfl, k0, k1, k2, k3, k4, k5, k6, k7, k8, k9⟩ := (HS.out.below hw).rule hx
   have cl := fun V => rione_any V (HZ.out _ (List.mem_of_getElem? hx))
   have HW := Lib.hid hw
   have b0 := Below.refl wr.heap.size wr
   have hB := Lib.hid (Nat.le_refl wr.heap.size)
   cases h1 : oneB (In.mk i g u f t a (qn, qd) (pn, pd)) with
   | false =>
    have HO : Hid (mayI l = false) := Lib.hid (mayI_stop hlt (okIn_no hx h1))
    rw [h1] at cl
    have CL := Lib.hid cl
    clear hx hw h1 cl
    go_wp2_with fail
    refine wp_region_noPanic ?_
    refine wp_region_held_drew (S := fun w' => Below wr.heap.size wr w') (by kernel_rfl) (b0.drew) (fun hH0 => ?_)
    refine sch_in [0, 1, 2, 3] ?_
    iterate 4 (refine sch_yes (v := ?_) rfl (by kernel_rfl) (by rfl) ?_ (by assumption) ?_; rotate_left 1; (· (intro w hSw; (try dsimp only at hSw); go_simp <;> (with_reducible rfl))); try simp only [Act.put, qA, qB, qC, qD, qE, qF])
    refine sch_out ?_
    refine wpAnyH_ready (rs := [4]) (by kernel_rfl) (by simp) ?_
    refine AllReadyH.cons rfl (fun K hK => ?_) AllReadyH.nil
    go_simp
    refine (held (W := wr) hB.out (CL.out _) (by assumption)).mono ?_
    rintro e w'' ⟨rfl, hb, hw⟩
    (try go_wp2_with fail)
    refine hK.out _ _ hw (fun hH1 => ?_)
    clear hK hH0 hb
    try simp only [Act.put, qA, qB, qC, qD, qE, qF]
    refine sch_in [5, 6, 7, 8, 9, 10, 11, 12, 13, 14, 15, 16, 17, 18, 19, 20, 21, 22, 23] ?_
    iterate 19 (first | (refine sch_no rfl (by kernel_rfl) (by rfl) (by assumption) ?_; try simp only [Act.put, qA, qB, qC, qD, qE, qF]) | (refine sch_yes (v := ?_) rfl (by kernel_rfl) (by rfl) ?_ (by assumption) ?_; rotate_left 1; (· (intro w hSw; (try dsimp only at hSw); go_simp <;> (with_reducible rfl))); try simp only [Act.put, qA, qB, qC, qD, qE, qF]))
    refine sch_out ?_
    refine wpAnyH_done (by kernel_rfl) ?_ _
    refine NoPanic.normal ?_
    have b9 := hw
    clear hw
    go_wp2_with fail
    go_ret
    exact ⟨ret_bool (by rw [HO.out]), Below.more HW.out b9⟩
   | true =>
    rw [h1] at cl
    have CL := Lib.hid cl
    cases k with
    | zero =>
     have HO : Hid (okIn l 0 = true) := Lib.hid (okIn_0 hx h1)
     clear hx hw h1 cl
     simp only [Nat.zero_mul, Nat.add_zero] at k0 k1 k2 k3 k4 k5 k6 k7 k8 k9
     go_wp2_with fail
     refine wp_region_noPanic ?_
     refine wp_region_held_drew (S := fun w' => Below wr.heap.size wr w') (by kernel_rfl) (b0.drew) (fun hH0 => ?_)
     refine sch_in [0, 1, 2, 3] ?_
     iterate 4 (refine sch_yes (v := ?_) rfl (by kernel_rfl) (by rfl) ?_ (by assumption) ?_; rotate_left 1; (· (intro w hSw; (try dsimp only at hSw); go_simp <;> (with_reducible rfl))); try simp only [Act.put, qA, qB, qC, qD, qE, qF])
     refine sch_out ?_
     refine wpAnyH_ready (rs := [4]) (by kernel_rfl) (by simp) ?_
     refine AllReadyH.cons rfl (fun K hK => ?_) AllReadyH.nil
     go_simp
     refine (held (W := wr) hB.out (CL.out _) (by assumption)).mono ?_
     rintro e w'' ⟨rfl, hb, hw⟩
     (try go_wp2_with fail)
     refine hK.out _ _ hw (fun hH1 => ?_)
     clear hK hH0 hb
     try simp only [Act.put, qA, qB, qC, qD, qE, qF]
     refine sch_in [5, 6, 7, 8, 9, 10, 11, 12, 13, 14, 15, 16, 17, 18, 19, 20, 21, 22, 23] ?_
     iterate 19 (first | (refine sch_no rfl (by kernel_rfl) (by rfl) (by assumption) ?_; try simp only [Act.put, qA, qB, qC, qD, qE, qF]) | (refine sch_yes (v := ?_) rfl (by kernel_rfl) (by rfl) ?_ (by assumption) ?_; rotate_left 1; (· (intro w hSw; (try dsimp only at hSw); go_simp <;> (with_reducible rfl))); try simp only [Act.put, qA, qB, qC, qD, qE, qF]))
     refine sch_out ?_
     refine wpAnyH_done (by kernel_rfl) ?_ _
     refine NoPanic.normal ?_
     have b9 := hw
     clear hw
     go_wp2_with fail
     go_roundw
     case rel => exact ⟨0 + 1, hlt, by go_num, less_more HJ.out HO.out, Below.more HW.out b9⟩
     case measure => simp [intOf]; omega
    | succ m =>
     obtain ⟨⟨i', g', u', f', t', a', ⟨qn', qd'⟩, ⟨pn', pd'⟩⟩, hy⟩ : ∃ x, l[m]? = some x := ⟨_, List.getElem?_eq_getElem (by omega)⟩
     obtain ⟨b', o', hp', j0, _⟩ := (HS.out.below hw).rule hy
     cases hp'
     have ho := okIn_s hx hy h1
     dsimp only at ho
     have hwr : IntKind.i64.wrap (m : Int) = (m : Int) := IntWalk.i64_in _ (by omega)
     have hlm : (m : Int) < (l.length : Int) := by omega
     have hpos : (0 : Int) < (m : Int) + 1 := by omega
     have hge : (0 : Int) ≤ (m : Int) + 1 := by omega
     by_cases h3 : i' < i
     ·have HO : Hid (okIn l (m + 1) = true) := Lib.hid (by rw [ho, decide_eq_true h3])
      have h4 : decide (i ≤ i') = false := decide_eq_false (by omega)
      clear hx hy hw h1 cl ho h3
      go_wp2_with fail
      refine wp_region_noPanic ?_
      refine wp_region_held_drew (S := fun w' => Below wr.heap.size wr w') (by kernel_rfl) (b0.drew) (fun hH0 => ?_)
      refine sch_in [0, 1, 2, 3] ?_
      iterate 4 (refine sch_yes (v := ?_) rfl (by kernel_rfl) (by rfl) ?_ (by assumption) ?_; rotate_left 1; (· (intro w hSw; (try dsimp only at hSw); go_simp <;> (with_reducible rfl))); try simp only [Act.put, qA, qB, qC, qD, qE, qF])
      refine sch_out ?_
      refine wpAnyH_ready (rs := [4]) (by kernel_rfl) (by simp) ?_
      refine AllReadyH.cons rfl (fun K hK => ?_) AllReadyH.nil
      go_simp
      refine (held (W := wr) hB.out (CL.out _) (by assumption)).mono ?_
      rintro e w'' ⟨rfl, hb, hw⟩
      (try go_wp2_with fail)
      refine hK.out _ _ hw (fun hH1 => ?_)
      clear hK hH0 hb
      try simp only [Act.put, qA, qB, qC, qD, qE, qF]
      refine sch_in [5, 6, 7, 8, 9, 10, 11, 12, 13, 14, 15, 16, 17, 18, 19, 20, 21, 22, 23] ?_
      iterate 19 (refine sch_yes (v := ?_) rfl (by kernel_rfl) (by rfl) ?_ (by assumption) ?_; rotate_left 1; (· (intro w hSw; (try dsimp only at hSw); go_simp <;> (with_reducible rfl))); try simp only [Act.put, qA, qB, qC, qD, qE, qF])
      refine sch_out ?_
      refine wpAnyH_done (by kernel_rfl) ?_ _
      refine NoPanic.normal ?_
      have b9 := hw
      clear hw
      go_wp2_with fail
      go_roundw
      case rel => exact ⟨(m + 1) + 1, hlt, by go_num, less_more HJ.out HO.out, Below.more HW.out b9⟩
      case measure => simp [intOf]; omega
     ·have HO : Hid (mayI l = false) := Lib.hid (mayI_stop hlt (by rw [ho, decide_eq_false h3]))
      have h4 : decide (i ≤ i') = true := decide_eq_true (by omega)
      clear hx hy hw h1 cl ho h3
      go_wp2_with fail
      refine wp_region_noPanic ?_
      refine wp_region_held_drew (S := fun w' => Below wr.heap.size wr w') (by kernel_rfl) (b0.drew) (fun hH0 => ?_)
      refine sch_in [0, 1, 2, 3] ?_
      iterate 4 (refine sch_yes (v := ?_) rfl (by kernel_rfl) (by rfl) ?_ (by assumption) ?_; rotate_left 1; (· (intro w hSw; (try dsimp only at hSw); go_simp <;> (with_reducible rfl))); try simp only [Act.put, qA, qB, qC, qD, qE, qF])
      refine sch_out ?_
      refine wpAnyH_ready (rs := [4]) (by kernel_rfl) (by simp) ?_
      refine AllReadyH.cons rfl (fun K hK => ?_) AllReadyH.nil
      go_simp
      refine (held (W := wr) hB.out (CL.out _) (by assumption)).mono ?_
      rintro e w'' ⟨rfl, hb, hw⟩
      (try go_wp2_with fail)
      refine hK.out _ _ hw (fun hH1 => ?_)
      clear hK hH0 hb
      try simp only [Act.put, qA, qB, qC, qD, qE, qF]
      refine sch_in [5, 6, 7, 8, 9, 10, 11, 12, 13, 14, 15, 16, 17, 18, 19, 20, 21, 22, 23] ?_
      iterate 19 (refine sch_yes (v := ?_) rfl (by kernel_rfl) (by rfl) ?_ (by assumption) ?_; rotate_left 1; (· (intro w hSw; (try dsimp only at hSw); go_simp <;> (with_reducible rfl))); try simp only [Act.put, qA, qB, qC, qD, qE, qF])
      refine sch_out ?_
      refine wpAnyH_done (by kernel_rfl) ?_ _
      refine NoPanic.normal ?_
      have b9 := hw
      clear hw
      go_wp2_with fail
      go_ret
      exact ⟨ret_bool (by rw [HO.out]), Below.more HW.out b9⟩
  ·obtain rfl : k = l.length := by omega
   have HR := Lib.hid (mayI_iff.2 HJ.out); have HW := Lib.hid hw; clear hw
   go_wp2_with fail
   go_ret
   exact ⟨ret_bool (by rw [HR.out]), HW.out⟩
end Go.Proofs.YtagfndkfjbbpjaaGreatDoor
/- Whether instructions are small. -/
namespace Go.Proofs.YtagfndkfjbbpjaaGreatDoor
open Go.RowKit
set_option linter.unusedSimpArgs false
set_option linter.unusedVariables false
theorem short2d (w : World) (a b : ByteArray × ByteArray) : Calls Tryz.prog 31 #[.slice (some ⟨w.heap.size, 0, none⟩) 2 2] (w.alloc (.cells #[.string a.1, .string a.2, .string b.1, .string b.2] 35)).drew fun e w' => e = .returned (.bool (shQ a && shQ b)) ∧ Below w.heap.size w w' :=
 (qshort_any (w.alloc (.cells #[.string a.1, .string a.2, .string b.1, .string b.2] 35)).drew _ 0 2 2 _ (by decide) (Nat.le_refl _) (fun j hj => rats2 w a b _ j hj)).mono fun _ _ ⟨he, hb⟩ => ⟨by
  rw [he]
  show Ending.returned (.bool ((true && shQ a) && shQ b)) = _
  rw [Bool.true_and], hb ▸ (Below.step _ (Below.refl _ _)).drew⟩
theorem smI_stop {l : List In} {k : Nat} {x : In} (hx : l[k]? = some x) (h : shI x = false) : smI l = false := by
 cases e : smI l with
 | false => rfl
 | true => rw [(smI_iff.1 e).1 x (List.mem_of_getElem? hx)] at h; cases h
theorem smI_end {l : List In} (h : ∀ (j : Nat) (x : In), j < l.length → l[j]? = some x → shI x = true) : smI l = decide (l.length ≤ 40) := by
 have k : l.all shI = true := List.all_eq_true.2 fun x hx => by
  obtain ⟨j, hj, e⟩ := List.getElem_of_mem hx
  exact h j x hj (by rw [List.getElem?_eq_getElem hj, e])
 unfold smI
 rw [k, Bool.true_and]
theorem shI_is {i g u : Int} {f t a qn qd pn pd : List UInt8} {b : Bool} (h : (shQ (⟨qn.toArray⟩, ⟨qd.toArray⟩) && shQ (⟨pn.toArray⟩, ⟨pd.toArray⟩)) = b) : shI (In.mk i g u f t a (qn, qd) (pn, pd)) = (b && (decide (f.length ≤ 100) && (decide (t.length ≤ 100) && decide (a.length ≤ 100)))) := by
 rw [← h]
 unfold shQ
 rw [size_of, size_of, size_of, size_of]
 rfl
set_option maxRecDepth 100000 in
set_option maxHeartbeats 4000000 in
theorem rismall_any (p : Option Addr) (c : Nat) (l : List In) (w : World) (hc : l.length ≤ c) (hl : l.length ≤ 4611686018427387904) (h : Ins w p l) :
  Calls Tryz.prog 9 #[.slice p l.length c] w (GiveB w (smI l)) := by
 have HS := Lib.hid h; clear h
 go_enter Tryz.func9, Tryz.ntmps9
 go_wp2
 go_loopw [3] (fun i wr => ∃ k : Nat, k ≤ l.length ∧ i = .int .i64 k ∧ Hid (∀ (j : Nat) (x : In), j < k → l[j]? = some x → shI x = true) ∧ Below w.heap.size w wr) (fun i _ => l.length - (intOf i).toNat)
 case atStart => exact ⟨0, Nat.zero_le _, rfl, fun j x h => absurd h (Nat.not_lt_zero j), Below.refl _ _⟩
 case round =>
  obtain ⟨k, hk, rfl, HJ, hw⟩ := hrel
  by_cases hlt : k < l.length
  ·obtain ⟨⟨i, g, u, f, t, a, ⟨qn, qd⟩, ⟨pn, pd⟩⟩, hx⟩ : ∃ x, l[k]? = some x := ⟨_, List.getElem?_eq_getElem hlt⟩
   obtain ⟨b, o, rfl, k0, k1, k2, k3, k4, k5, k6, k7, k8, k9⟩ := (HS.out.below hw).rule hx
   have HX := Lib.hid hx; have HW := Lib.hid hw
   clear hx hw k0 k1 k2
   have b0 := Below.refl wr.heap.size wr
   have cs := fun w => short2d w (⟨qn.toArray⟩, ⟨qd.toArray⟩) (⟨pn.toArray⟩, ⟨pd.toArray⟩)
   cases hq : shQ ((⟨qn.toArray⟩, ⟨qd.toArray⟩) : ByteArray × ByteArray) && shQ ((⟨pn.toArray⟩, ⟨pd.toArray⟩) : ByteArray × ByteArray) with
   | false =>
    rw [hq] at cs
    have HO : Hid (smI l = false) := Lib.hid (smI_stop HX.out (by rw [shI_is hq, Bool.false_and]))
    clear hq
    have CS := Lib.hid cs; clear cs
    go_wp2_with fail
    refine wp_region_noPanic ?_
    refine wp_region_held_drew (S := fun w' => Below wr.heap.size wr w') (by kernel_rfl) (b0.drew) (fun hH0 => ?_)
    refine sch_in [0, 1, 2, 3, 4, 5, 6, 7, 8, 9] ?_
    iterate 10 (refine sch_yes (v := ?_) rfl (by kernel_rfl) (by rfl) ?_ (by assumption) ?_; rotate_left 1; (· (intro w hSw; (try dsimp only at hSw); go_simp <;> (with_reducible rfl))); try simp only [Act.put, qA, qB, qC, qD, qE, qF])
    refine sch_out ?_
    refine wpAnyH_ready (rs := [10]) (by kernel_rfl) (by simp) ?_
    refine AllReadyH.cons rfl (fun K hK => ?_) AllReadyH.nil
    go_simp
    refine hK.out _ _ (Below.alloc hH0 (Below.size hH0) _) (fun hH1 => ?_)
    clear hK
    try simp only [Act.put, qA, qB, qC, qD, qE, qF]
    refine wpAnyH_ready (rs := [11]) (by kernel_rfl) (by simp) ?_
    refine AllReadyH.cons rfl (fun K hK => ?_) AllReadyH.nil
    go_simp
    refine (CS.out _).mono ?_
    rintro e w'' ⟨rfl, hb⟩
    have hw := b0.trans hb
    (try go_wp2_with fail)
    refine hK.out _ _ hw (fun hH2 => ?_)
    clear hK hH0 hH1 hb
    try simp only [Act.put, qA, qB, qC, qD, qE, qF]
    refine sch_in [12, 13, 14, 15, 16, 17, 18, 19, 20, 21, 22, 23, 24, 25, 26, 27, 28, 29, 30, 31, 32, 33, 34, 35, 36, 37, 38, 39] ?_
    iterate 28 (first | (refine sch_no rfl (by kernel_rfl) (by rfl) (by assumption) ?_; try simp only [Act.put, qA, qB, qC, qD, qE, qF]) | (refine sch_yes (v := ?_) rfl (by kernel_rfl) (by rfl) ?_ (by assumption) ?_; rotate_left 1; (· (intro w hSw; (try dsimp only at hSw); go_simp <;> (with_reducible rfl))); try simp only [Act.put, qA, qB, qC, qD, qE, qF]))
    refine sch_out ?_
    refine wpAnyH_done (by kernel_rfl) ?_ _
    refine NoPanic.normal ?_
    have b1 := hw
    clear hw
    go_wp2_with fail
    go_ret
    exact ⟨ret_bool (by rw [HO.out]), Below.more HW.out b1⟩
   | true =>
    rw [hq] at cs
    by_cases h1 : (100 : Int) < (f.length : Int)
    ·have HO : Hid (smI l = false) := Lib.hid (smI_stop HX.out (by rw [shI_is hq, decide_eq_false (show ¬ f.length ≤ 100 by omega)]; simp))
     clear hq
     have CS := Lib.hid cs; clear cs
     go_wp2_with fail
     refine wp_region_noPanic ?_
     refine wp_region_held_drew (S := fun w' => Below wr.heap.size wr w') (by kernel_rfl) (b0.drew) (fun hH0 => ?_)
     refine sch_in [0, 1, 2, 3, 4, 5, 6, 7, 8, 9] ?_
     iterate 10 (refine sch_yes (v := ?_) rfl (by kernel_rfl) (by rfl) ?_ (by assumption) ?_; rotate_left 1; (· (intro w hSw; (try dsimp only at hSw); go_simp <;> (with_reducible rfl))); try simp only [Act.put, qA, qB, qC, qD, qE, qF])
     refine sch_out ?_
     refine wpAnyH_ready (rs := [10]) (by kernel_rfl) (by simp) ?_
     refine AllReadyH.cons rfl (fun K hK => ?_) AllReadyH.nil
     go_simp
     refine hK.out _ _ (Below.alloc hH0 (Below.size hH0) _) (fun hH1 => ?_)
     clear hK
     try simp only [Act.put, qA, qB, qC, qD, qE, qF]
     refine wpAnyH_ready (rs := [11]) (by kernel_rfl) (by simp) ?_
     refine AllReadyH.cons rfl (fun K hK => ?_) AllReadyH.nil
     go_simp
     refine (CS.out _).mono ?_
     rintro e w'' ⟨rfl, hb⟩
     have hw := b0.trans hb
     (try go_wp2_with fail)
     refine hK.out _ _ hw (fun hH2 => ?_)
     clear hK hH0 hH1 hb
     try simp only [Act.put, qA, qB, qC, qD, qE, qF]
     refine sch_in [12, 13, 14, 15, 16, 17, 18, 19, 20, 21, 22, 23, 24, 25, 26, 27, 28, 29, 30, 31, 32, 33, 34, 35, 36, 37, 38, 39] ?_
     iterate 28 (first | (refine sch_no rfl (by kernel_rfl) (by rfl) (by assumption) ?_; try simp only [Act.put, qA, qB, qC, qD, qE, qF]) | (refine sch_yes (v := ?_) rfl (by kernel_rfl) (by rfl) ?_ (by assumption) ?_; rotate_left 1; (· (intro w hSw; (try dsimp only at hSw); go_simp <;> (with_reducible rfl))); try simp only [Act.put, qA, qB, qC, qD, qE, qF]))
     refine sch_out ?_
     refine wpAnyH_done (by kernel_rfl) ?_ _
     refine NoPanic.normal ?_
     have b1 := hw
     clear hw
     go_wp2_with fail
     go_ret
     exact ⟨ret_bool (by rw [HO.out]), Below.more HW.out b1⟩
    ·have g1 : decide ((100 : Int) < (f.length : Int)) = false := decide_eq_false h1
     by_cases h2 : (100 : Int) < (t.length : Int)
     ·have HO : Hid (smI l = false) := Lib.hid (smI_stop HX.out (by rw [shI_is hq, decide_eq_false (show ¬ t.length ≤ 100 by omega)]; simp))
      clear hq
      have CS := Lib.hid cs; clear cs
      go_wp2_with fail
      refine wp_region_noPanic ?_
      refine wp_region_held_drew (S := fun w' => Below wr.heap.size wr w') (by kernel_rfl) (b0.drew) (fun hH0 => ?_)
      refine sch_in [0, 1, 2, 3, 4, 5, 6, 7, 8, 9] ?_
      iterate 10 (refine sch_yes (v := ?_) rfl (by kernel_rfl) (by rfl) ?_ (by assumption) ?_; rotate_left 1; (· (intro w hSw; (try dsimp only at hSw); go_simp <;> (with_reducible rfl))); try simp only [Act.put, qA, qB, qC, qD, qE, qF])
      refine sch_out ?_
      refine wpAnyH_ready (rs := [10]) (by kernel_rfl) (by simp) ?_
      refine AllReadyH.cons rfl (fun K hK => ?_) AllReadyH.nil
      go_simp
      refine hK.out _ _ (Below.alloc hH0 (Below.size hH0) _) (fun hH1 => ?_)
      clear hK
      try simp only [Act.put, qA, qB, qC, qD, qE, qF]
      refine wpAnyH_ready (rs := [11]) (by kernel_rfl) (by simp) ?_
      refine AllReadyH.cons rfl (fun K hK => ?_) AllReadyH.nil
      go_simp
      refine (CS.out _).mono ?_
      rintro e w'' ⟨rfl, hb⟩
      have hw := b0.trans hb
      (try go_wp2_with fail)
      refine hK.out _ _ hw (fun hH2 => ?_)
      clear hK hH0 hH1 hb
      try simp only [Act.put, qA, qB, qC, qD, qE, qF]
      refine sch_in [12, 13, 14, 15, 16, 17, 18, 19, 20, 21, 22, 23, 24, 25, 26, 27, 28, 29, 30, 31, 32, 33, 34, 35, 36, 37, 38, 39] ?_
      iterate 28 (first | (refine sch_no rfl (by kernel_rfl) (by rfl) (by assumption) ?_; try simp only [Act.put, qA, qB, qC, qD, qE, qF]) | (refine sch_yes (v := ?_) rfl (by kernel_rfl) (by rfl) ?_ (by assumption) ?_; rotate_left 1; (· (intro w hSw; (try dsimp only at hSw); go_simp <;> (with_reducible rfl))); try simp only [Act.put, qA, qB, qC, qD, qE, qF]))
      refine sch_out ?_
      refine wpAnyH_done (by kernel_rfl) ?_ _
      refine NoPanic.normal ?_
      have b1 := hw
      clear hw
      go_wp2_with fail
      go_ret
      exact ⟨ret_bool (by rw [HO.out]), Below.more HW.out b1⟩
     ·have g2 : decide ((100 : Int) < (t.length : Int)) = false := decide_eq_false h2
      by_cases h3 : (100 : Int) < (a.length : Int)
      ·have HO : Hid (smI l = false) := Lib.hid (smI_stop HX.out (by rw [shI_is hq, decide_eq_false (show ¬ a.length ≤ 100 by omega)]; simp))
       clear hq
       have CS := Lib.hid cs; clear cs
       go_wp2_with fail
       refine wp_region_noPanic ?_
       refine wp_region_held_drew (S := fun w' => Below wr.heap.size wr w') (by kernel_rfl) (b0.drew) (fun hH0 => ?_)
       refine sch_in [0, 1, 2, 3, 4, 5, 6, 7, 8, 9] ?_
       iterate 10 (refine sch_yes (v := ?_) rfl (by kernel_rfl) (by rfl) ?_ (by assumption) ?_; rotate_left 1; (· (intro w hSw; (try dsimp only at hSw); go_simp <;> (with_reducible rfl))); try simp only [Act.put, qA, qB, qC, qD, qE, qF])
       refine sch_out ?_
       refine wpAnyH_ready (rs := [10]) (by kernel_rfl) (by simp) ?_
       refine AllReadyH.cons rfl (fun K hK => ?_) AllReadyH.nil
       go_simp
       refine hK.out _ _ (Below.alloc hH0 (Below.size hH0) _) (fun hH1 => ?_)
       clear hK
       try simp only [Act.put, qA, qB, qC, qD, qE, qF]
       refine wpAnyH_ready (rs := [11]) (by kernel_rfl) (by simp) ?_
       refine AllReadyH.cons rfl (fun K hK => ?_) AllReadyH.nil
       go_simp
       refine (CS.out _).mono ?_
       rintro e w'' ⟨rfl, hb⟩
       have hw := b0.trans hb
       (try go_wp2_with fail)
       refine hK.out _ _ hw (fun hH2 => ?_)
       clear hK hH0 hH1 hb
       try simp only [Act.put, qA, qB, qC, qD, qE, qF]
       refine sch_in [12, 13, 14, 15, 16, 17, 18, 19, 20, 21, 22, 23, 24, 25, 26, 27, 28, 29, 30, 31, 32, 33, 34, 35, 36, 37, 38, 39] ?_
       iterate 28 (refine sch_yes (v := ?_) rfl (by kernel_rfl) (by rfl) ?_ (by assumption) ?_; rotate_left 1; (· (intro w hSw; (try dsimp only at hSw); go_simp <;> (with_reducible rfl))); try simp only [Act.put, qA, qB, qC, qD, qE, qF])
       refine sch_out ?_
       refine wpAnyH_done (by kernel_rfl) ?_ _
       refine NoPanic.normal ?_
       have b1 := hw
       clear hw
       go_wp2_with fail
       go_ret
       exact ⟨ret_bool (by rw [HO.out]), Below.more HW.out b1⟩
      ·have g3 : decide ((100 : Int) < (a.length : Int)) = false := decide_eq_false h3
       have HO : Hid (shI (In.mk i g u f t a (qn, qd) (pn, pd)) = true) := Lib.hid (by rw [shI_is hq, decide_eq_true (show f.length ≤ 100 by omega), decide_eq_true (show t.length ≤ 100 by omega), decide_eq_true (show a.length ≤ 100 by omega)]; rfl)
       clear hq
       have CS := Lib.hid cs; clear cs
       go_wp2_with fail
       refine wp_region_noPanic ?_
       refine wp_region_held_drew (S := fun w' => Below wr.heap.size wr w') (by kernel_rfl) (b0.drew) (fun hH0 => ?_)
       refine sch_in [0, 1, 2, 3, 4, 5, 6, 7, 8, 9] ?_
       iterate 10 (refine sch_yes (v := ?_) rfl (by kernel_rfl) (by rfl) ?_ (by assumption) ?_; rotate_left 1; (· (intro w hSw; (try dsimp only at hSw); go_simp <;> (with_reducible rfl))); try simp only [Act.put, qA, qB, qC, qD, qE, qF])
       refine sch_out ?_
       refine wpAnyH_ready (rs := [10]) (by kernel_rfl) (by simp) ?_
       refine AllReadyH.cons rfl (fun K hK => ?_) AllReadyH.nil
       go_simp
       refine hK.out _ _ (Below.alloc hH0 (Below.size hH0) _) (fun hH1 => ?_)
       clear hK
       try simp only [Act.put, qA, qB, qC, qD, qE, qF]
       refine wpAnyH_ready (rs := [11]) (by kernel_rfl) (by simp) ?_
       refine AllReadyH.cons rfl (fun K hK => ?_) AllReadyH.nil
       go_simp
       refine (CS.out _).mono ?_
       rintro e w'' ⟨rfl, hb⟩
       have hw := b0.trans hb
       (try go_wp2_with fail)
       refine hK.out _ _ hw (fun hH2 => ?_)
       clear hK hH0 hH1 hb
       try simp only [Act.put, qA, qB, qC, qD, qE, qF]
       refine sch_in [12, 13, 14, 15, 16, 17, 18, 19, 20, 21, 22, 23, 24, 25, 26, 27, 28, 29, 30, 31, 32, 33, 34, 35, 36, 37, 38, 39] ?_
       iterate 28 (refine sch_yes (v := ?_) rfl (by kernel_rfl) (by rfl) ?_ (by assumption) ?_; rotate_left 1; (· (intro w hSw; (try dsimp only at hSw); go_simp <;> (with_reducible rfl))); try simp only [Act.put, qA, qB, qC, qD, qE, qF])
       refine sch_out ?_
       refine wpAnyH_done (by kernel_rfl) ?_ _
       refine NoPanic.normal ?_
       have b1 := hw
       clear hw
       go_wp2_with fail
       go_roundw
       case rel => exact ⟨k + 1, hlt, by go_num, moreI (P := fun y => shI y = true) HJ.out HX.out HO.out, Below.more HW.out b1⟩
       case measure => simp [intOf]; omega
  ·obtain rfl : k = l.length := by omega
   have HR := Lib.hid (smI_end HJ.out); have HW := Lib.hid hw; clear hw
   by_cases h40 : (l.length : Int) ≤ 40
   ·have HD : Hid (decide (l.length ≤ 40) = true) := Lib.hid (decide_eq_true (by omega))
    go_wp2
    go_ret
    exact ⟨ret_bool (by rw [HR.out, HD.out]), HW.out⟩
   ·have HD : Hid (decide (l.length ≤ 40) = false) := Lib.hid (decide_eq_false (by omega))
    go_wp2
    go_ret
    exact ⟨ret_bool (by rw [HR.out, HD.out]), HW.out⟩
end Go.Proofs.YtagfndkfjbbpjaaGreatDoor
