/- The program's instruct: which instructions may be; the first place of a number. -/
import Derived.Test.YtagfndkfjbbpjaaGreatDoorAllRefI
import Derived.Test.YtagfndkfjbbpjaaGreatDoorAllBk1
import Derived.Test.YtagfndkfjbbpjaaGreatDoorAllRat
import Derived.Test.YtagfndkfjbbpjaaGreatDoorAllPoA
import Derived.Test.YtagfndkfjbbpjaaGreatDoorAllRefI6
namespace Go.Proofs.YtagfndkfjbbpjaaGreatDoor
open Go.RowKit
set_option linter.unusedSimpArgs false
set_option linter.unusedVariables false
set_option maxRecDepth 100000 in
set_option maxHeartbeats 4000000 in
theorem tim_0 {i g u : Int} {f t a qn qd pn pd : List UInt8} (h1 : ¬ 0 ≤ g) (w : World) :
  Calls Tryz.prog 40 #[.agg #[.int .i64 i, .int .i64 g, .int .i64 u, .string ⟨f.toArray⟩, .string ⟨t.toArray⟩, .string ⟨a.toArray⟩, .string ⟨qn.toArray⟩, .string ⟨qd.toArray⟩, .string ⟨pn.toArray⟩, .string ⟨pd.toArray⟩]] w (GiveB w false) := by
 go_enter Tryz.func40, Tryz.ntmps40
 go_wp2_with fail
 have BW := Below.refl w.heap.size w
 have b0 : Below w.heap.size w w := Below.refl _ _
 obtain ⟨U1, hU, bU, s1, rx0, rx1, rx2, rx3, rx4, rx5, rx6, rx7, rx8, rx9⟩ := lay10 b0 (.int .i64 i) (.int .i64 g) (.int .i64 u) (.string ⟨f.toArray⟩) (.string ⟨t.toArray⟩) (.string ⟨a.toArray⟩) (.string ⟨qn.toArray⟩) (.string ⟨qd.toArray⟩) (.string ⟨pn.toArray⟩) (.string ⟨pd.toArray⟩) 37
 rw [hU]; clear hU
 clear s1
 replace BW := Below.more BW bU
 clear bU
 have b1 := Below.refl U1.heap.size U1
 go_wp2_with fail
 go_ret
 exact ⟨ret_bool (by first | rfl | simp [*]), Below.more BW b1⟩
set_option maxRecDepth 100000 in
set_option maxHeartbeats 4000000 in
theorem tim_1 {i g u : Int} {f t a qn qd pn pd : List UInt8} (h1 : 0 ≤ g) (h2 : ¬ g ≤ u) (w : World) :
  Calls Tryz.prog 40 #[.agg #[.int .i64 i, .int .i64 g, .int .i64 u, .string ⟨f.toArray⟩, .string ⟨t.toArray⟩, .string ⟨a.toArray⟩, .string ⟨qn.toArray⟩, .string ⟨qd.toArray⟩, .string ⟨pn.toArray⟩, .string ⟨pd.toArray⟩]] w (GiveB w false) := by
 go_enter Tryz.func40, Tryz.ntmps40
 go_wp2_with fail
 have BW := Below.refl w.heap.size w
 have b0 : Below w.heap.size w w := Below.refl _ _
 obtain ⟨U1, hU, bU, s1, rx0, rx1, rx2, rx3, rx4, rx5, rx6, rx7, rx8, rx9⟩ := lay10 b0 (.int .i64 i) (.int .i64 g) (.int .i64 u) (.string ⟨f.toArray⟩) (.string ⟨t.toArray⟩) (.string ⟨a.toArray⟩) (.string ⟨qn.toArray⟩) (.string ⟨qd.toArray⟩) (.string ⟨pn.toArray⟩) (.string ⟨pd.toArray⟩) 37
 rw [hU]; clear hU
 clear s1
 replace BW := Below.more BW bU
 clear bU
 have b1 := Below.refl U1.heap.size U1
 go_wp2_with fail
 go_ret
 exact ⟨ret_bool (by first | rfl | simp [*]), Below.more BW b1⟩
set_option maxRecDepth 100000 in
set_option maxHeartbeats 4000000 in
theorem tim_2 {i g u : Int} {f t a qn qd pn pd : List UInt8} (h1 : 0 ≤ g) (h2 : g ≤ u) (w : World) :
  Calls Tryz.prog 40 #[.agg #[.int .i64 i, .int .i64 g, .int .i64 u, .string ⟨f.toArray⟩, .string ⟨t.toArray⟩, .string ⟨a.toArray⟩, .string ⟨qn.toArray⟩, .string ⟨qd.toArray⟩, .string ⟨pn.toArray⟩, .string ⟨pd.toArray⟩]] w (GiveB w true) := by
 go_enter Tryz.func40, Tryz.ntmps40
 go_wp2_with fail
 have BW := Below.refl w.heap.size w
 have b0 : Below w.heap.size w w := Below.refl _ _
 obtain ⟨U1, hU, bU, s1, rx0, rx1, rx2, rx3, rx4, rx5, rx6, rx7, rx8, rx9⟩ := lay10 b0 (.int .i64 i) (.int .i64 g) (.int .i64 u) (.string ⟨f.toArray⟩) (.string ⟨t.toArray⟩) (.string ⟨a.toArray⟩) (.string ⟨qn.toArray⟩) (.string ⟨qd.toArray⟩) (.string ⟨pn.toArray⟩) (.string ⟨pd.toArray⟩) 37
 rw [hU]; clear hU
 clear s1
 replace BW := Below.more BW bU
 clear bU
 have b1 := Below.refl U1.heap.size U1
 go_wp2_with fail
 go_ret
 exact ⟨ret_bool (by first | rfl | simp [*]), Below.more BW b1⟩
theorem itimely_any {i g u : Int} {f t a qn qd pn pd : List UInt8} (w : World) : Calls Tryz.prog 40 #[.agg #[.int .i64 i, .int .i64 g, .int .i64 u, .string ⟨f.toArray⟩, .string ⟨t.toArray⟩, .string ⟨a.toArray⟩, .string ⟨qn.toArray⟩, .string ⟨qd.toArray⟩, .string ⟨pn.toArray⟩, .string ⟨pd.toArray⟩]] w (GiveB w (decide (0 ≤ g) && decide (g ≤ u))) := by
 by_cases h1 : 0 ≤ g
 ·by_cases h2 : g ≤ u
  ·rw [decide_eq_true h1, decide_eq_true h2]; exact tim_2 h1 h2 w
  ·rw [decide_eq_true h1, decide_eq_false h2]; exact tim_1 h1 h2 w
 ·rw [decide_eq_false h1]; exact tim_0 h1 w
set_option maxRecDepth 100000 in
set_option maxHeartbeats 4000000 in
theorem nam_0 {i g u : Int} {f t a qn qd pn pd : List UInt8} (CF : Hid (∀ w, Calls Tryz.prog 70 #[.string ⟨f.toArray⟩] w (GiveB w false))) (w : World) :
  Calls Tryz.prog 41 #[.agg #[.int .i64 i, .int .i64 g, .int .i64 u, .string ⟨f.toArray⟩, .string ⟨t.toArray⟩, .string ⟨a.toArray⟩, .string ⟨qn.toArray⟩, .string ⟨qd.toArray⟩, .string ⟨pn.toArray⟩, .string ⟨pd.toArray⟩]] w (GiveB w false) := by
 go_enter Tryz.func41, Tryz.ntmps41
 go_wp2_with fail
 have BW := Below.refl w.heap.size w
 have b0 : Below w.heap.size w w := Below.refl _ _
 obtain ⟨U1, hU, bU, s1, rx0, rx1, rx2, rx3, rx4, rx5, rx6, rx7, rx8, rx9⟩ := lay10 b0 (.int .i64 i) (.int .i64 g) (.int .i64 u) (.string ⟨f.toArray⟩) (.string ⟨t.toArray⟩) (.string ⟨a.toArray⟩) (.string ⟨qn.toArray⟩) (.string ⟨qd.toArray⟩) (.string ⟨pn.toArray⟩) (.string ⟨pd.toArray⟩) 37
 rw [hU]; clear hU
 clear s1
 replace BW := Below.more BW bU
 clear bU
 have b1 := Below.refl U1.heap.size U1
 go_wp2_with fail
 refine (CF.out _).mono ?_
 rintro e w2 ⟨rfl, b⟩
 have b2 := Below.more b1 b
 clear b
 go_wp2_with fail
 go_ret
 exact ⟨ret_bool (by first | rfl | simp [*]), Below.more BW b2⟩
set_option maxRecDepth 100000 in
set_option maxHeartbeats 4000000 in
theorem nam_1 {i g u : Int} {f t a qn qd pn pd : List UInt8} (CF : Hid (∀ w, Calls Tryz.prog 70 #[.string ⟨f.toArray⟩] w (GiveB w true))) (CT : Hid (∀ w, Calls Tryz.prog 70 #[.string ⟨t.toArray⟩] w (GiveB w false))) (w : World) :
  Calls Tryz.prog 41 #[.agg #[.int .i64 i, .int .i64 g, .int .i64 u, .string ⟨f.toArray⟩, .string ⟨t.toArray⟩, .string ⟨a.toArray⟩, .string ⟨qn.toArray⟩, .string ⟨qd.toArray⟩, .string ⟨pn.toArray⟩, .string ⟨pd.toArray⟩]] w (GiveB w false) := by
 go_enter Tryz.func41, Tryz.ntmps41
 go_wp2_with fail
 have BW := Below.refl w.heap.size w
 have b0 : Below w.heap.size w w := Below.refl _ _
 obtain ⟨U1, hU, bU, s1, rx0, rx1, rx2, rx3, rx4, rx5, rx6, rx7, rx8, rx9⟩ := lay10 b0 (.int .i64 i) (.int .i64 g) (.int .i64 u) (.string ⟨f.toArray⟩) (.string ⟨t.toArray⟩) (.string ⟨a.toArray⟩) (.string ⟨qn.toArray⟩) (.string ⟨qd.toArray⟩) (.string ⟨pn.toArray⟩) (.string ⟨pd.toArray⟩) 37
 rw [hU]; clear hU
 clear s1
 replace BW := Below.more BW bU
 clear bU
 have b1 := Below.refl U1.heap.size U1
 go_wp2_with fail
 refine (CF.out _).mono ?_
 rintro e w2 ⟨rfl, b⟩
 have b2 := Below.more b1 b
 clear b
 go_wp2_with fail
 refine (CT.out _).mono ?_
 rintro e w3 ⟨rfl, b⟩
 have b3 := Below.more b2 b
 clear b
 go_wp2_with fail
 go_ret
 exact ⟨ret_bool (by first | rfl | simp [*]), Below.more BW b3⟩
set_option maxRecDepth 100000 in
set_option maxHeartbeats 4000000 in
theorem nam_2 {i g u : Int} {f t a qn qd pn pd : List UInt8} (CF : Hid (∀ w, Calls Tryz.prog 70 #[.string ⟨f.toArray⟩] w (GiveB w true))) (CT : Hid (∀ w, Calls Tryz.prog 70 #[.string ⟨t.toArray⟩] w (GiveB w true))) (CA : Hid (∀ w, Calls Tryz.prog 70 #[.string ⟨a.toArray⟩] w (GiveB w false))) (w : World) :
  Calls Tryz.prog 41 #[.agg #[.int .i64 i, .int .i64 g, .int .i64 u, .string ⟨f.toArray⟩, .string ⟨t.toArray⟩, .string ⟨a.toArray⟩, .string ⟨qn.toArray⟩, .string ⟨qd.toArray⟩, .string ⟨pn.toArray⟩, .string ⟨pd.toArray⟩]] w (GiveB w false) := by
 go_enter Tryz.func41, Tryz.ntmps41
 go_wp2_with fail
 have BW := Below.refl w.heap.size w
 have b0 : Below w.heap.size w w := Below.refl _ _
 obtain ⟨U1, hU, bU, s1, rx0, rx1, rx2, rx3, rx4, rx5, rx6, rx7, rx8, rx9⟩ := lay10 b0 (.int .i64 i) (.int .i64 g) (.int .i64 u) (.string ⟨f.toArray⟩) (.string ⟨t.toArray⟩) (.string ⟨a.toArray⟩) (.string ⟨qn.toArray⟩) (.string ⟨qd.toArray⟩) (.string ⟨pn.toArray⟩) (.string ⟨pd.toArray⟩) 37
 rw [hU]; clear hU
 clear s1
 replace BW := Below.more BW bU
 clear bU
 have b1 := Below.refl U1.heap.size U1
 go_wp2_with fail
 refine (CF.out _).mono ?_
 rintro e w2 ⟨rfl, b⟩
 have b2 := Below.more b1 b
 clear b
 go_wp2_with fail
 refine (CT.out _).mono ?_
 rintro e w3 ⟨rfl, b⟩
 have b3 := Below.more b2 b
 clear b
 go_wp2_with fail
 refine (CA.out _).mono ?_
 rintro e w4 ⟨rfl, b⟩
 have b4 := Below.more b3 b
 clear b
 go_wp2_with fail
 go_ret
 exact ⟨ret_bool (by first | rfl | simp [*]), Below.more BW b4⟩
set_option maxRecDepth 100000 in
set_option maxHeartbeats 4000000 in
theorem nam_3 {i g u : Int} {f t a qn qd pn pd : List UInt8} (CF : Hid (∀ w, Calls Tryz.prog 70 #[.string ⟨f.toArray⟩] w (GiveB w true))) (CT : Hid (∀ w, Calls Tryz.prog 70 #[.string ⟨t.toArray⟩] w (GiveB w true))) (CA : Hid (∀ w, Calls Tryz.prog 70 #[.string ⟨a.toArray⟩] w (GiveB w true))) (h4 : (f == t) = true) (w : World) :
  Calls Tryz.prog 41 #[.agg #[.int .i64 i, .int .i64 g, .int .i64 u, .string ⟨f.toArray⟩, .string ⟨t.toArray⟩, .string ⟨a.toArray⟩, .string ⟨qn.toArray⟩, .string ⟨qd.toArray⟩, .string ⟨pn.toArray⟩, .string ⟨pd.toArray⟩]] w (GiveB w false) := by
 go_enter Tryz.func41, Tryz.ntmps41
 go_wp2_with fail
 have BW := Below.refl w.heap.size w
 have b0 : Below w.heap.size w w := Below.refl _ _
 obtain ⟨U1, hU, bU, s1, rx0, rx1, rx2, rx3, rx4, rx5, rx6, rx7, rx8, rx9⟩ := lay10 b0 (.int .i64 i) (.int .i64 g) (.int .i64 u) (.string ⟨f.toArray⟩) (.string ⟨t.toArray⟩) (.string ⟨a.toArray⟩) (.string ⟨qn.toArray⟩) (.string ⟨qd.toArray⟩) (.string ⟨pn.toArray⟩) (.string ⟨pd.toArray⟩) 37
 rw [hU]; clear hU
 clear s1
 replace BW := Below.more BW bU
 clear bU
 have b1 := Below.refl U1.heap.size U1
 go_wp2_with fail
 refine (CF.out _).mono ?_
 rintro e w2 ⟨rfl, b⟩
 have b2 := Below.more b1 b
 clear b
 go_wp2_with fail
 refine (CT.out _).mono ?_
 rintro e w3 ⟨rfl, b⟩
 have b3 := Below.more b2 b
 clear b
 go_wp2_with fail
 refine (CA.out _).mono ?_
 rintro e w4 ⟨rfl, b⟩
 have b4 := Below.more b3 b
 clear b
 go_wp2_with fail
 go_ret
 exact ⟨ret_bool (by first | rfl | simp [*]), Below.more BW b4⟩
set_option maxRecDepth 100000 in
set_option maxHeartbeats 4000000 in
theorem nam_4 {i g u : Int} {f t a qn qd pn pd : List UInt8} (CF : Hid (∀ w, Calls Tryz.prog 70 #[.string ⟨f.toArray⟩] w (GiveB w true))) (CT : Hid (∀ w, Calls Tryz.prog 70 #[.string ⟨t.toArray⟩] w (GiveB w true))) (CA : Hid (∀ w, Calls Tryz.prog 70 #[.string ⟨a.toArray⟩] w (GiveB w true))) (h4 : (f == t) = false) (w : World) :
  Calls Tryz.prog 41 #[.agg #[.int .i64 i, .int .i64 g, .int .i64 u, .string ⟨f.toArray⟩, .string ⟨t.toArray⟩, .string ⟨a.toArray⟩, .string ⟨qn.toArray⟩, .string ⟨qd.toArray⟩, .string ⟨pn.toArray⟩, .string ⟨pd.toArray⟩]] w (GiveB w true) := by
 go_enter Tryz.func41, Tryz.ntmps41
 go_wp2_with fail
 have BW := Below.refl w.heap.size w
 have b0 : Below w.heap.size w w := Below.refl _ _
 obtain ⟨U1, hU, bU, s1, rx0, rx1, rx2, rx3, rx4, rx5, rx6, rx7, rx8, rx9⟩ := lay10 b0 (.int .i64 i) (.int .i64 g) (.int .i64 u) (.string ⟨f.toArray⟩) (.string ⟨t.toArray⟩) (.string ⟨a.toArray⟩) (.string ⟨qn.toArray⟩) (.string ⟨qd.toArray⟩) (.string ⟨pn.toArray⟩) (.string ⟨pd.toArray⟩) 37
 rw [hU]; clear hU
 clear s1
 replace BW := Below.more BW bU
 clear bU
 have b1 := Below.refl U1.heap.size U1
 go_wp2_with fail
 refine (CF.out _).mono ?_
 rintro e w2 ⟨rfl, b⟩
 have b2 := Below.more b1 b
 clear b
 go_wp2_with fail
 refine (CT.out _).mono ?_
 rintro e w3 ⟨rfl, b⟩
 have b3 := Below.more b2 b
 clear b
 go_wp2_with fail
 refine (CA.out _).mono ?_
 rintro e w4 ⟨rfl, b⟩
 have b4 := Below.more b3 b
 clear b
 go_wp2_with fail
 go_ret
 exact ⟨ret_bool (by first | rfl | simp [*]), Below.more BW b4⟩
theorem inamed_any {i g u : Int} {f t a qn qd pn pd : List UInt8} (w : World) : Calls Tryz.prog 41 #[.agg #[.int .i64 i, .int .i64 g, .int .i64 u, .string ⟨f.toArray⟩, .string ⟨t.toArray⟩, .string ⟨a.toArray⟩, .string ⟨qn.toArray⟩, .string ⟨qd.toArray⟩, .string ⟨pn.toArray⟩, .string ⟨pd.toArray⟩]] w (GiveB w (isName f && (isName t && (isName a && !(f == t))))) := by
 have c1 : ∀ w, Calls Tryz.prog 70 #[.string ⟨f.toArray⟩] w (GiveB w (isName f)) := fun w => bname_any ⟨f.toArray⟩ w
 have c2 : ∀ w, Calls Tryz.prog 70 #[.string ⟨t.toArray⟩] w (GiveB w (isName t)) := fun w => bname_any ⟨t.toArray⟩ w
 have c3 : ∀ w, Calls Tryz.prog 70 #[.string ⟨a.toArray⟩] w (GiveB w (isName a)) := fun w => bname_any ⟨a.toArray⟩ w
 cases h1 : isName f with
 | false => rw [h1] at c1; exact nam_0 (Lib.hid c1) w
 | true =>
  rw [h1] at c1
  cases h2 : isName t with
  | false => rw [h2] at c2; exact nam_1 (Lib.hid c1) (Lib.hid c2) w
  | true =>
   rw [h2] at c2
   cases h3 : isName a with
   | false => rw [h3] at c3; exact nam_2 (Lib.hid c1) (Lib.hid c2) (Lib.hid c3) w
   | true =>
    rw [h3] at c3
    cases h4 : f == t with
    | true => exact nam_3 (Lib.hid c1) (Lib.hid c2) (Lib.hid c3) h4 w
    | false => exact nam_4 (Lib.hid c1) (Lib.hid c2) (Lib.hid c3) h4 w
set_option maxRecDepth 100000 in
set_option maxHeartbeats 4000000 in
theorem pri_0 {i g u : Int} {f t a qn qd pn pd : List UInt8} {sq : Int} (CQ : Hid (∀ w, Calls Tryz.prog 39 #[.agg #[.string ⟨qn.toArray⟩, .string ⟨qd.toArray⟩]] w (GiveI w sq))) (h1 : ¬ 0 < sq) (w : World) :
  Calls Tryz.prog 42 #[.agg #[.int .i64 i, .int .i64 g, .int .i64 u, .string ⟨f.toArray⟩, .string ⟨t.toArray⟩, .string ⟨a.toArray⟩, .string ⟨qn.toArray⟩, .string ⟨qd.toArray⟩, .string ⟨pn.toArray⟩, .string ⟨pd.toArray⟩]] w (GiveB w false) := by
 go_enter Tryz.func42, Tryz.ntmps42
 go_wp2_with fail
 have BW := Below.refl w.heap.size w
 have b0 : Below w.heap.size w w := Below.refl _ _
 obtain ⟨U1, hU, bU, s1, rx0, rx1, rx2, rx3, rx4, rx5, rx6, rx7, rx8, rx9⟩ := lay10 b0 (.int .i64 i) (.int .i64 g) (.int .i64 u) (.string ⟨f.toArray⟩) (.string ⟨t.toArray⟩) (.string ⟨a.toArray⟩) (.string ⟨qn.toArray⟩) (.string ⟨qd.toArray⟩) (.string ⟨pn.toArray⟩) (.string ⟨pd.toArray⟩) 37
 rw [hU]; clear hU
 clear s1
 replace BW := Below.more BW bU
 clear bU
 have b1 := Below.refl U1.heap.size U1
 go_wp2_with fail
 refine (CQ.out _).mono ?_
 rintro e w2 ⟨rfl, b⟩
 have b2 := Below.more b1 b
 clear b
 go_wp2_with fail
 go_ret
 exact ⟨ret_bool (by first | rfl | simp [*]), Below.more BW b2⟩
set_option maxRecDepth 100000 in
set_option maxHeartbeats 4000000 in
theorem pri_1 {i g u : Int} {f t a qn qd pn pd : List UInt8} {sq : Int} (CQ : Hid (∀ w, Calls Tryz.prog 39 #[.agg #[.string ⟨qn.toArray⟩, .string ⟨qd.toArray⟩]] w (GiveI w sq))) (h1 : 0 < sq) (CM : Hid (∀ w, Calls Tryz.prog 67 #[.agg #[.string ⟨pn.toArray⟩, .string ⟨pd.toArray⟩]] w (GiveB w false))) (w : World) :
  Calls Tryz.prog 42 #[.agg #[.int .i64 i, .int .i64 g, .int .i64 u, .string ⟨f.toArray⟩, .string ⟨t.toArray⟩, .string ⟨a.toArray⟩, .string ⟨qn.toArray⟩, .string ⟨qd.toArray⟩, .string ⟨pn.toArray⟩, .string ⟨pd.toArray⟩]] w (GiveB w false) := by
 go_enter Tryz.func42, Tryz.ntmps42
 go_wp2_with fail
 have BW := Below.refl w.heap.size w
 have b0 : Below w.heap.size w w := Below.refl _ _
 obtain ⟨U1, hU, bU, s1, rx0, rx1, rx2, rx3, rx4, rx5, rx6, rx7, rx8, rx9⟩ := lay10 b0 (.int .i64 i) (.int .i64 g) (.int .i64 u) (.string ⟨f.toArray⟩) (.string ⟨t.toArray⟩) (.string ⟨a.toArray⟩) (.string ⟨qn.toArray⟩) (.string ⟨qd.toArray⟩) (.string ⟨pn.toArray⟩) (.string ⟨pd.toArray⟩) 37
 rw [hU]; clear hU
 clear s1
 replace BW := Below.more BW bU
 clear bU
 have b1 := Below.refl U1.heap.size U1
 go_wp2_with fail
 refine (CQ.out _).mono ?_
 rintro e w2 ⟨rfl, b⟩
 have b2 := Below.more b1 b
 clear b
 go_wp2_with fail
 refine (CM.out _).mono ?_
 rintro e w3 ⟨rfl, b⟩
 have b3 := Below.more b2 b
 clear b
 go_wp2_with fail
 go_ret
 exact ⟨ret_bool (by first | rfl | simp [*]), Below.more BW b3⟩
set_option maxRecDepth 100000 in
set_option maxHeartbeats 4000000 in
theorem pri_2 {i g u : Int} {f t a qn qd pn pd : List UInt8} {sq sp : Int} (CQ : Hid (∀ w, Calls Tryz.prog 39 #[.agg #[.string ⟨qn.toArray⟩, .string ⟨qd.toArray⟩]] w (GiveI w sq))) (h1 : 0 < sq) (CM : Hid (∀ w, Calls Tryz.prog 67 #[.agg #[.string ⟨pn.toArray⟩, .string ⟨pd.toArray⟩]] w (GiveB w true))) (CP : Hid (∀ w, Calls Tryz.prog 39 #[.agg #[.string ⟨pn.toArray⟩, .string ⟨pd.toArray⟩]] w (GiveI w sp))) (h2 : ¬ 0 ≤ sp) (w : World) :
  Calls Tryz.prog 42 #[.agg #[.int .i64 i, .int .i64 g, .int .i64 u, .string ⟨f.toArray⟩, .string ⟨t.toArray⟩, .string ⟨a.toArray⟩, .string ⟨qn.toArray⟩, .string ⟨qd.toArray⟩, .string ⟨pn.toArray⟩, .string ⟨pd.toArray⟩]] w (GiveB w false) := by
 go_enter Tryz.func42, Tryz.ntmps42
 go_wp2_with fail
 have BW := Below.refl w.heap.size w
 have b0 : Below w.heap.size w w := Below.refl _ _
 obtain ⟨U1, hU, bU, s1, rx0, rx1, rx2, rx3, rx4, rx5, rx6, rx7, rx8, rx9⟩ := lay10 b0 (.int .i64 i) (.int .i64 g) (.int .i64 u) (.string ⟨f.toArray⟩) (.string ⟨t.toArray⟩) (.string ⟨a.toArray⟩) (.string ⟨qn.toArray⟩) (.string ⟨qd.toArray⟩) (.string ⟨pn.toArray⟩) (.string ⟨pd.toArray⟩) 37
 rw [hU]; clear hU
 clear s1
 replace BW := Below.more BW bU
 clear bU
 have b1 := Below.refl U1.heap.size U1
 go_wp2_with fail
 refine (CQ.out _).mono ?_
 rintro e w2 ⟨rfl, b⟩
 have b2 := Below.more b1 b
 clear b
 go_wp2_with fail
 refine (CM.out _).mono ?_
 rintro e w3 ⟨rfl, b⟩
 have b3 := Below.more b2 b
 clear b
 go_wp2_with fail
 refine (CP.out _).mono ?_
 rintro e w4 ⟨rfl, b⟩
 have b4 := Below.more b3 b
 clear b
 go_wp2_with fail
 go_ret
 exact ⟨ret_bool (by first | rfl | simp [*]), Below.more BW b4⟩
set_option maxRecDepth 100000 in
set_option maxHeartbeats 4000000 in
theorem pri_3 {i g u : Int} {f t a qn qd pn pd : List UInt8} {sq sp : Int} (CQ : Hid (∀ w, Calls Tryz.prog 39 #[.agg #[.string ⟨qn.toArray⟩, .string ⟨qd.toArray⟩]] w (GiveI w sq))) (h1 : 0 < sq) (CM : Hid (∀ w, Calls Tryz.prog 67 #[.agg #[.string ⟨pn.toArray⟩, .string ⟨pd.toArray⟩]] w (GiveB w true))) (CP : Hid (∀ w, Calls Tryz.prog 39 #[.agg #[.string ⟨pn.toArray⟩, .string ⟨pd.toArray⟩]] w (GiveI w sp))) (h2 : 0 ≤ sp) (w : World) :
  Calls Tryz.prog 42 #[.agg #[.int .i64 i, .int .i64 g, .int .i64 u, .string ⟨f.toArray⟩, .string ⟨t.toArray⟩, .string ⟨a.toArray⟩, .string ⟨qn.toArray⟩, .string ⟨qd.toArray⟩, .string ⟨pn.toArray⟩, .string ⟨pd.toArray⟩]] w (GiveB w true) := by
 go_enter Tryz.func42, Tryz.ntmps42
 go_wp2_with fail
 have BW := Below.refl w.heap.size w
 have b0 : Below w.heap.size w w := Below.refl _ _
 obtain ⟨U1, hU, bU, s1, rx0, rx1, rx2, rx3, rx4, rx5, rx6, rx7, rx8, rx9⟩ := lay10 b0 (.int .i64 i) (.int .i64 g) (.int .i64 u) (.string ⟨f.toArray⟩) (.string ⟨t.toArray⟩) (.string ⟨a.toArray⟩) (.string ⟨qn.toArray⟩) (.string ⟨qd.toArray⟩) (.string ⟨pn.toArray⟩) (.string ⟨pd.toArray⟩) 37
 rw [hU]; clear hU
 clear s1
 replace BW := Below.more BW bU
 clear bU
 have b1 := Below.refl U1.heap.size U1
 go_wp2_with fail
 refine (CQ.out _).mono ?_
 rintro e w2 ⟨rfl, b⟩
 have b2 := Below.more b1 b
 clear b
 go_wp2_with fail
 refine (CM.out _).mono ?_
 rintro e w3 ⟨rfl, b⟩
 have b3 := Below.more b2 b
 clear b
 go_wp2_with fail
 refine (CP.out _).mono ?_
 rintro e w4 ⟨rfl, b⟩
 have b4 := Below.more b3 b
 clear b
 go_wp2_with fail
 go_ret
 exact ⟨ret_bool (by first | rfl | simp [*]), Below.more BW b4⟩
theorem ipriced_any {i g u : Int} {f t a qn qd pn pd : List UInt8} (w : World) (hz : SzI (In.mk i g u f t a (qn, qd) (pn, pd))) : Calls Tryz.prog 42 #[.agg #[.int .i64 i, .int .i64 g, .int .i64 u, .string ⟨f.toArray⟩, .string ⟨t.toArray⟩, .string ⟨a.toArray⟩, .string ⟨qn.toArray⟩, .string ⟨qd.toArray⟩, .string ⟨pn.toArray⟩, .string ⟨pd.toArray⟩]] w (GiveB w (decide (0 < sgnR (qn, qd)) && (isR (pn, pd) && decide (0 ≤ sgnR (pn, pd))))) := by
 obtain ⟨_, ⟨z1, z2⟩, z3, z4⟩ := hz
 dsimp only at z1 z2 z3 z4
 have c1 : ∀ w, Calls Tryz.prog 39 #[.agg #[.string ⟨qn.toArray⟩, .string ⟨qd.toArray⟩]] w (GiveI w (sgnR (qn, qd))) := fun w => qsign_any ⟨qn.toArray⟩ ⟨qd.toArray⟩ w (by rw [size_of]; omega) (by rw [size_of]; omega)
 have c2 : ∀ w, Calls Tryz.prog 67 #[.agg #[.string ⟨pn.toArray⟩, .string ⟨pd.toArray⟩]] w (GiveB w (isR (pn, pd))) := fun w => qmay_any ⟨pn.toArray⟩ ⟨pd.toArray⟩ w (by rw [size_of]; omega) (by rw [size_of]; omega)
 have c3 : ∀ w, Calls Tryz.prog 39 #[.agg #[.string ⟨pn.toArray⟩, .string ⟨pd.toArray⟩]] w (GiveI w (sgnR (pn, pd))) := fun w => qsign_any ⟨pn.toArray⟩ ⟨pd.toArray⟩ w (by rw [size_of]; omega) (by rw [size_of]; omega)
 generalize sgnR (qn, qd) = sq at *
 generalize sgnR (pn, pd) = sp at *
 by_cases h1 : 0 < sq
 ·rw [decide_eq_true h1]
  cases h2 : isR (pn, pd) with
  | false => rw [h2] at c2; exact pri_1 (Lib.hid c1) h1 (Lib.hid c2) w
  | true =>
   rw [h2] at c2
   by_cases h3 : 0 ≤ sp
   ·rw [decide_eq_true h3]; exact pri_3 (Lib.hid c1) h1 (Lib.hid c2) (Lib.hid c3) h3 w
   ·rw [decide_eq_false h3]; exact pri_2 (Lib.hid c1) h1 (Lib.hid c2) (Lib.hid c3) h3 w
 ·rw [decide_eq_false h1]; exact pri_0 (Lib.hid c1) h1 w
def lastI (l : List In) : Nat → Int
 | 0 => 0
 | k + 1 => match l[k]? with | some x => x.id | none => 0
theorem last_at {l : List In} {m : Nat} {y : In} (hy : l[m]? = some y) : lastI l (m + 1) = y.id := by
 show (match l[m]? with | some x => x.id | none => 0) = y.id
 rw [hy]
theorem okIn_low {l : List In} {k : Nat} {x : In} (hx : l[k]? = some x) (hall : ∀ j, j < k → okIn l j = true) (h : x.id ≤ lastI l k) : okIn l k = false := by
 cases k with
 | zero =>
  refine okIn_no hx ?_
  unfold oneB oneA
  rw [decide_eq_true (show x.id < 1 from Int.lt_of_le_of_lt h (show (0 : Int) < 1 by decide))]; rfl
 | succ m =>
  cases hy : l[m]? with
  | none =>
   obtain ⟨h1, _⟩ := List.getElem?_eq_some_iff.1 hx
   rw [List.getElem?_eq_getElem (by omega)] at hy; cases hy
  | some y =>
   rw [last_at hy] at h
   cases c : oneB x with
   | false => exact okIn_no hx c
   | true => rw [okIn_s hx hy c]; exact decide_eq_false (by omega)
theorem okIn_yes {l : List In} {k : Nat} {x : In} (hx : l[k]? = some x) (h : ¬ x.id ≤ lastI l k) (h1 : oneB x = true) : okIn l k = true := by
 cases k with
 | zero => exact okIn_0 hx h1
 | succ m =>
  obtain ⟨y, hy⟩ : ∃ y, l[m]? = some y := ⟨_, List.getElem?_eq_getElem (by have := (List.getElem?_eq_some_iff.1 hx).1; omega)⟩
  rw [okIn_s hx hy h1]
  rw [last_at hy] at h
  exact decide_eq_true (by omega)
theorem last_pos {l : List In} {k : Nat} (hk : k ≤ l.length) (hall : ∀ j, j < k → okIn l j = true) : 0 ≤ lastI l k := by
 cases k with
 | zero => exact Int.le_refl 0
 | succ m =>
  obtain ⟨y, hy⟩ : ∃ y, l[m]? = some y := ⟨_, List.getElem?_eq_getElem (by omega)⟩
  have h := hall m (Nat.lt_succ_self m)
  rw [last_at hy]
  cases c : oneB y with
  | false => rw [okIn_no hy c] at h; cases h
  | true => have := (one_parts c).1.1; omega
theorem one_is {i g u : Int} {f t a qn qd pn pd : List UInt8} {k : Int} (h0 : 0 ≤ k) (h : ¬ i ≤ k) : oneB (In.mk i g u f t a (qn, qd) (pn, pd)) = ((decide (0 ≤ g) && decide (g ≤ u)) && ((isName f && (isName t && (isName a && !(f == t)))) && (decide (0 < sgnR (qn, qd)) && (isR (pn, pd) && decide (0 ≤ sgnR (pn, pd)))))) := by
 unfold oneB oneA oneN
 dsimp only
 rw [decide_eq_false (show ¬ i < 1 by omega), Bool.not_false, Bool.true_and]
 have e1 : (!decide (g < 0)) = decide (0 ≤ g) := by rw [← decide_not]; exact decide_eq_decide.2 Int.not_lt
 have e2 : (!decide (u < g)) = decide (g ≤ u) := by rw [← decide_not]; exact decide_eq_decide.2 Int.not_lt
 rw [e1, e2]
 simp only [Bool.and_assoc]
set_option maxRecDepth 100000 in
set_option maxHeartbeats 4000000 in
theorem imay_any (p : Option Addr) (c : Nat) (l : List In) (w : World) (hl : l.length ≤ 1000000) (hz : ∀ x ∈ l, SzI x) (h : Ins w p l) :
  Calls Tryz.prog 16 #[.slice p l.length c] w (GiveB w (mayI l)) := by
 have HS := Lib.hid h; have HZ := Lib.hid hz; clear h hz
 go_enter Tryz.func16, Tryz.ntmps16
 go_wp2
 go_loopw [3, 8] (fun last i wr => ∃ k : Nat, k ≤ l.length ∧ i = .int .i64 k ∧ last = .int .i64 (lastI l k) ∧ Hid (∀ j, j < k → okIn l j = true) ∧ Below w.heap.size w wr) (fun _ i _ => l.length - (intOf i).toNat)
 case atStart => exact ⟨0, Nat.zero_le _, rfl, rfl, fun j h => absurd h (Nat.not_lt_zero j), Below.refl _ _⟩
 case round =>
  obtain ⟨k, hk, rfl, rfl, HJ, hw⟩ := hrel
  by_cases hlt : k < l.length
  ·obtain ⟨⟨i, g, u, f, t, a, ⟨qn, qd⟩, ⟨pn, pd⟩⟩, hx⟩ : ∃ x, l[k]? = some x := ⟨_, List.getElem?_eq_getElem hlt⟩
   obtain ⟨b, o, rfl, k0, k1, k2, k3, k4, k5, k6, k7, k8, k9⟩ := (HS.out.below hw).rule hx
   have c3 := fun V => ipriced_any V (HZ.out _ (List.mem_of_getElem? hx))
   have c1 : ∀ V, Calls Tryz.prog 40 #[.agg #[.int .i64 i, .int .i64 g, .int .i64 u, .string ⟨f.toArray⟩, .string ⟨t.toArray⟩, .string ⟨a.toArray⟩, .string ⟨qn.toArray⟩, .string ⟨qd.toArray⟩, .string ⟨pn.toArray⟩, .string ⟨pd.toArray⟩]] V (GiveB V _) := fun V => itimely_any V
   have c2 : ∀ V, Calls Tryz.prog 41 #[.agg #[.int .i64 i, .int .i64 g, .int .i64 u, .string ⟨f.toArray⟩, .string ⟨t.toArray⟩, .string ⟨a.toArray⟩, .string ⟨qn.toArray⟩, .string ⟨qd.toArray⟩, .string ⟨pn.toArray⟩, .string ⟨pd.toArray⟩]] V (GiveB V _) := fun V => inamed_any V
   have HW := Lib.hid hw
   have b0 := Below.refl wr.heap.size wr
   have hp := last_pos hk HJ.out
   have hon := one_is (i := i) (g := g) (u := u) (f := f) (t := t) (a := a) (qn := qn) (qd := qd) (pn := pn) (pd := pd) hp
   have hlow := okIn_low hx HJ.out
   have hyes := okIn_yes hx
   have hno := okIn_no hx
   have hlast : lastI l (k + 1) = i := last_at hx
   dsimp only at hlow hyes
   generalize (decide (0 ≤ g) && decide (g ≤ u)) = t1 at *
   generalize (isName f && (isName t && (isName a && !(f == t)))) = t2 at *
   generalize (decide (0 < sgnR (qn, qd)) && (isR (pn, pd) && decide (0 ≤ sgnR (pn, pd)))) = t3 at *
   generalize oneB (In.mk i g u f t a (qn, qd) (pn, pd)) = ob at *
   by_cases hi : i ≤ lastI l k
   ·have HO : Hid (mayI l = false) := Lib.hid (mayI_stop hlt (hlow hi))
    generalize lastI l k = la at *
    clear hx hw hon hlow hyes hno hp c1 c2 c3
    go_wp2_with fail
    obtain ⟨U1, hU, bU, s1, rx0, rx1, rx2, rx3, rx4, rx5, rx6, rx7, rx8, rx9⟩ := lay10 b0 (.int .i64 i) (.int .i64 g) (.int .i64 u) (.string ⟨f.toArray⟩) (.string ⟨t.toArray⟩) (.string ⟨a.toArray⟩) (.string ⟨qn.toArray⟩) (.string ⟨qd.toArray⟩) (.string ⟨pn.toArray⟩) (.string ⟨pd.toArray⟩) 37
    rw [hU]; clear hU
    have HWU := Lib.hid (Below.more HW.out bU)
    clear s1 bU b0 k0 k1 k2 k3 k4 k5 k6 k7 k8 k9
    have b1 := Below.refl U1.heap.size U1
    go_wp2_with fail
    go_ret
    exact ⟨ret_bool (by rw [HO.out]), Below.more HWU.out b1⟩
   ·replace hon := hon hi
    replace hyes := hyes hi
    generalize lastI l k = la at *
    clear hw hlow hp
    go_wp2_with fail
    obtain ⟨U1, hU, bU, s1, rx0, rx1, rx2, rx3, rx4, rx5, rx6, rx7, rx8, rx9⟩ := lay10 b0 (.int .i64 i) (.int .i64 g) (.int .i64 u) (.string ⟨f.toArray⟩) (.string ⟨t.toArray⟩) (.string ⟨a.toArray⟩) (.string ⟨qn.toArray⟩) (.string ⟨qd.toArray⟩) (.string ⟨pn.toArray⟩) (.string ⟨pd.toArray⟩) 37
    rw [hU]; clear hU
    have HWU := Lib.hid (Below.more HW.out bU)
    clear s1 bU b0 k0 k1 k2 k3 k4 k5 k6 k7 k8 k9
    have b1 := Below.refl U1.heap.size U1
    cases t1 with
    | false =>
     have C1 := Lib.hid c1
     clear c1 c2 c3
     have HO : Hid (mayI l = false) := Lib.hid (mayI_stop hlt (hno (by rw [hon]; rfl)))
     clear hx hon hyes hno
     go_wp2_with fail
     refine (C1.out _).mono ?_
     rintro e w1 ⟨rfl, b⟩
     have b2 := Below.more b1 b
     clear b
     go_wp2_with fail
     go_ret
     exact ⟨ret_bool (by rw [HO.out]), Below.more HWU.out b2⟩
    | true =>
     cases t2 with
     | false =>
      have C1 := Lib.hid c1; have C2 := Lib.hid c2
      clear c1 c2 c3
      have HO : Hid (mayI l = false) := Lib.hid (mayI_stop hlt (hno (by rw [hon]; rfl)))
      clear hx hon hyes hno
      go_wp2_with fail
      refine (C1.out _).mono ?_
      rintro e w1 ⟨rfl, b⟩
      have b2 := Below.more b1 b
      clear b
      go_wp2_with fail
      refine (C2.out _).mono ?_
      rintro e w2 ⟨rfl, b⟩
      have b3 := Below.more b2 b
      clear b
      go_wp2_with fail
      go_ret
      exact ⟨ret_bool (by rw [HO.out]), Below.more HWU.out b3⟩
     | true =>
      cases t3 with
      | false =>
       have C1 := Lib.hid c1; have C2 := Lib.hid c2; have C3 := Lib.hid c3
       clear c1 c2 c3
       have HO : Hid (mayI l = false) := Lib.hid (mayI_stop hlt (hno (by rw [hon]; rfl)))
       clear hx hon hyes hno
       go_wp2_with fail
       refine (C1.out _).mono ?_
       rintro e w1 ⟨rfl, b⟩
       have b2 := Below.more b1 b
       clear b
       go_wp2_with fail
       refine (C2.out _).mono ?_
       rintro e w2 ⟨rfl, b⟩
       have b3 := Below.more b2 b
       clear b
       go_wp2_with fail
       refine (C3.out _).mono ?_
       rintro e w3 ⟨rfl, b⟩
       have b4 := Below.more b3 b
       clear b
       go_wp2_with fail
       go_ret
       exact ⟨ret_bool (by rw [HO.out]), Below.more HWU.out b4⟩
      | true =>
       have C1 := Lib.hid c1; have C2 := Lib.hid c2; have C3 := Lib.hid c3
       clear c1 c2 c3
       have HO : Hid (okIn l k = true) := Lib.hid (hyes (by rw [hon]; rfl))
       have HLA := Lib.hid hlast
       clear hx hon hyes hno hlast
       go_wp2_with fail
       refine (C1.out _).mono ?_
       rintro e w1 ⟨rfl, b⟩
       have b2 := Below.more b1 b
       clear b
       go_wp2_with fail
       refine (C2.out _).mono ?_
       rintro e w2 ⟨rfl, b⟩
       have b3 := Below.more b2 b
       clear b
       go_wp2_with fail
       refine (C3.out _).mono ?_
       rintro e w3 ⟨rfl, b⟩
       have b4 := Below.more b3 b
       clear b
       go_wp2_with fail
       go_roundw
       case rel => exact ⟨k + 1, hlt, by go_num, by rw [HLA.out], Lib.hid (less_more HJ.out HO.out), Below.more HWU.out b4⟩
       case measure => simp [intOf]; omega
  ·obtain rfl : k = l.length := by omega
   have HO := Lib.hid (mayI_iff.2 HJ.out); have HW := Lib.hid hw
   clear hw
   go_wp2_with fail
   go_ret
   exact ⟨ret_bool (by rw [HO.out]), HW.out⟩
set_option maxRecDepth 100000 in
set_option maxHeartbeats 4000000 in
theorem fdif_no (bx : Nat) {i g u m : Int} {f t a qn qd pn pd : List UInt8} (hq : Hid (¬ i = m)) (w : World) (hb : bx < w.heap.size) (h0 : w.cell? ⟨bx, 0, none⟩ = some (.int .i64 m)) :
  Calls Tryz.prog 44 #[.agg #[.int .i64 i, .int .i64 g, .int .i64 u, .string ⟨f.toArray⟩, .string ⟨t.toArray⟩, .string ⟨a.toArray⟩, .string ⟨qn.toArray⟩, .string ⟨qd.toArray⟩, .string ⟨pn.toArray⟩, .string ⟨pd.toArray⟩], .pointer (some ⟨bx, 0, none⟩)] w (GiveB w false) := by
 have hx : ∀ v, Below w.heap.size w v → v.cell? ⟨bx, 0, none⟩ = some (.int .i64 m) := fun v h => (h.cell (p := ⟨bx, 0, none⟩) hb).trans h0
 clear h0
 go_enter Tryz.func44, Tryz.ntmps44
 go_upto_region 1 with fail
 have b0 : Below w.heap.size w w := Below.refl _ _
 obtain ⟨U1, hU, bU, s1, rx0, rx1, rx2, rx3, rx4, rx5, rx6, rx7, rx8, rx9⟩ := lay10 b0 (.int .i64 i) (.int .i64 g) (.int .i64 u) (.string ⟨f.toArray⟩) (.string ⟨t.toArray⟩) (.string ⟨a.toArray⟩) (.string ⟨qn.toArray⟩) (.string ⟨qd.toArray⟩) (.string ⟨pn.toArray⟩) (.string ⟨pd.toArray⟩) 37
 rw [hU]; clear hU s1
 have h1 := hx _ bU
 have b1 := Below.refl U1.heap.size U1
 have HB := Lib.hid bU
 clear hx bU b0
 have hq := hq.out
 skip
 go_wp2_with fail
 go_ret
 exact ⟨ret_bool (by first | rfl | simp [*]), HB.out⟩
set_option maxRecDepth 100000 in
set_option maxHeartbeats 4000000 in
theorem fdif_yes (bx : Nat) {i g u m : Int} {f t a qn qd pn pd : List UInt8} (hq : Hid (i = m)) (w : World) (hb : bx < w.heap.size) (h0 : w.cell? ⟨bx, 0, none⟩ = some (.int .i64 m)) :
  Calls Tryz.prog 44 #[.agg #[.int .i64 i, .int .i64 g, .int .i64 u, .string ⟨f.toArray⟩, .string ⟨t.toArray⟩, .string ⟨a.toArray⟩, .string ⟨qn.toArray⟩, .string ⟨qd.toArray⟩, .string ⟨pn.toArray⟩, .string ⟨pd.toArray⟩], .pointer (some ⟨bx, 0, none⟩)] w (GiveB w true) := by
 have hx : ∀ v, Below w.heap.size w v → v.cell? ⟨bx, 0, none⟩ = some (.int .i64 m) := fun v h => (h.cell (p := ⟨bx, 0, none⟩) hb).trans h0
 clear h0
 go_enter Tryz.func44, Tryz.ntmps44
 go_upto_region 1 with fail
 have b0 : Below w.heap.size w w := Below.refl _ _
 obtain ⟨U1, hU, bU, s1, rx0, rx1, rx2, rx3, rx4, rx5, rx6, rx7, rx8, rx9⟩ := lay10 b0 (.int .i64 i) (.int .i64 g) (.int .i64 u) (.string ⟨f.toArray⟩) (.string ⟨t.toArray⟩) (.string ⟨a.toArray⟩) (.string ⟨qn.toArray⟩) (.string ⟨qd.toArray⟩) (.string ⟨pn.toArray⟩) (.string ⟨pd.toArray⟩) 37
 rw [hU]; clear hU s1
 have h1 := hx _ bU
 have b1 := Below.refl U1.heap.size U1
 have HB := Lib.hid bU
 clear hx bU b0
 have hq := hq.out
 subst hq
 go_wp2_with fail
 go_ret
 exact ⟨ret_bool (by first | rfl | simp [*]), HB.out⟩
set_option maxRecDepth 100000 in
set_option maxHeartbeats 4000000 in
theorem fidx_any (p : Option Addr) (c bx : Nat) (l : List In) (m : Int) (w : World) (hl : l.length ≤ 1000000) (h : Ins w p l)
  (CC : Hid (∀ V (x : In), Below w.heap.size w V → Calls Tryz.prog 44 #[.agg #[.int .i64 x.id, .int .i64 x.dealt, .int .i64 x.due, .string ⟨x.frm.toArray⟩, .string ⟨x.dst.toArray⟩, .string ⟨x.ast.toArray⟩, .string ⟨x.q.1.toArray⟩, .string ⟨x.q.2.toArray⟩, .string ⟨x.pay.1.toArray⟩, .string ⟨x.pay.2.toArray⟩], .pointer (some ⟨bx, 0, none⟩)] V (GiveB V (decide (x.id = m))))) :
  Calls Tryz.prog 43 #[.slice p l.length c, .func (.func 44) #[] #[.pointer (some ⟨bx, 0, none⟩)]] w (GiveI w (findI l m 0)) := by
 have HS := Lib.hid h; clear h
 go_enter Tryz.func43, Tryz.ntmps43
 go_wp2
 go_loopw [8] (fun x wr => ∃ k : Nat, k ≤ l.length ∧ x = .int .i64 k ∧ Hid (∀ (j : Nat) (y : In), j < k → l[j]? = some y → y.id ≠ m) ∧ Below w.heap.size w wr) (fun x _ => l.length - (intOf x).toNat)
 case atStart => exact ⟨0, Nat.zero_le _, rfl, fun j x h => absurd h (Nat.not_lt_zero j), Below.refl _ _⟩
 case round =>
  obtain ⟨k, hk, rfl, HJ, hw⟩ := hrel
  by_cases hlt : k < l.length
  ·obtain ⟨⟨i, g, u, f, t, a, ⟨qn, qd⟩, ⟨pn, pd⟩⟩, hx⟩ : ∃ x, l[k]? = some x := ⟨_, List.getElem?_eq_getElem hlt⟩
   obtain ⟨b, o, rfl, k0, k1, k2, k3, k4, k5, k6, k7, k8, k9⟩ := (HS.out.below hw).rule hx
   have cc := CC.out wr (In.mk i g u f t a (qn, qd) (pn, pd)) hw
   dsimp only at cc
   have HW := Lib.hid hw
   have b0 := Below.refl wr.heap.size wr
   have q0 := k0 _ b0; have q1 := k1 _ b0; have q2 := k2 _ b0; have q3 := k3 _ b0; have q4 := k4 _ b0; have q5 := k5 _ b0; have q6 := k6 _ b0; have q7 := k7 _ b0; have q8 := k8 _ b0; have q9 := k9 _ b0
   by_cases e : i = m
   ·have HO := Lib.hid (find_at hx e HJ.out)
    rw [decide_eq_true e] at cc
    have CK := Lib.hid cc
    clear hx hw cc k0 k1 k2 k3 k4 k5 k6 k7 k8 k9 e
    go_wp2_with fail
    refine CK.out.mono ?_
    rintro e w1 ⟨rfl, b1⟩
    go_wp2_with fail
    go_ret
    exact ⟨by rw [HO.out]; rfl, Below.more HW.out b1⟩
   ·have HO := Lib.hid (moreI (P := fun y => y.id ≠ m) HJ.out hx e)
    rw [decide_eq_false e] at cc
    have CK := Lib.hid cc
    clear hx hw cc k0 k1 k2 k3 k4 k5 k6 k7 k8 k9 e
    go_wp2_with fail
    refine CK.out.mono ?_
    rintro e w1 ⟨rfl, b1⟩
    go_wp2_with fail
    go_roundw
    case rel => exact ⟨k + 1, hlt, by go_num, HO, Below.more HW.out b1⟩
    case measure => simp [intOf]; omega
  ·obtain rfl : k = l.length := by omega
   have HO := Lib.hid (find_none HJ.out); have HW := Lib.hid hw
   clear hw
   go_wp2_with fail
   go_ret
   exact ⟨by rw [HO.out]; rfl, HW.out⟩
set_option maxRecDepth 100000 in
set_option maxHeartbeats 4000000 in
theorem pfind_any (p : Option Addr) (c : Nat) (l : List In) (m : Int) (w : World) (hl : l.length ≤ 1000000) (h : Ins w p l) :
  Calls Tryz.prog 20 #[.slice p l.length c, .int .i64 m] w (GiveI w (findI l m 0)) := by
 have ci : ∀ V, Below w.heap.size w V → w.heap.size < V.heap.size → V.cell? ⟨w.heap.size, 0, none⟩ = some (.int .i64 m) → Calls Tryz.prog 43 #[.slice p l.length c, .func (.func 44) #[] #[.pointer (some ⟨w.heap.size, 0, none⟩)]] V (GiveI V (findI l m 0)) := fun V hV hs h0 => by
  refine fidx_any p c w.heap.size l m V hl (h.below hV) (Lib.hid fun W x hW => ?_)
  have h1 : W.cell? ⟨w.heap.size, 0, none⟩ = some (.int .i64 m) := (hW.cell (p := ⟨w.heap.size, 0, none⟩) hs).trans h0
  by_cases e : x.id = m
  ·rw [decide_eq_true e]; exact fdif_yes _ (Lib.hid e) W (Nat.lt_of_lt_of_le hs (Below.size hW)) h1
  ·rw [decide_eq_false e]; exact fdif_no _ (Lib.hid e) W (Nat.lt_of_lt_of_le hs (Below.size hW)) h1
 have CI := Lib.hid ci
 clear ci h
 generalize findI l m 0 = r at *
 go_enter Tryz.func20, Tryz.ntmps20
 go_wp2_with fail
 obtain ⟨U, hU, bU, s1, r0⟩ := lay1 w (.int .i64 m) 3
 rw [hU]; clear hU
 have b0 := Below.refl U.heap.size U
 refine (CI.out _ bU (by omega) (r0 _ b0)).mono ?_
 rintro e w1 ⟨rfl, b⟩
 have b1 := Below.more b0 b
 clear b
 go_wp2_with fail
 go_ret
 exact ⟨rfl, Below.more bU b1⟩
end Go.Proofs.YtagfndkfjbbpjaaGreatDoor
/- The program's instruct: an instruction's lines. -/
namespace Go.Proofs.YtagfndkfjbbpjaaGreatDoor
open Go.RowKit
set_option linter.unusedSimpArgs false
set_option linter.unusedVariables false
theorem lnsTwo (w : World) (a s n d c e m k : List UInt8) (t : TypeId) : Lns (w.alloc (.cells #[.string ⟨a.toArray⟩, .string ⟨s.toArray⟩, .string ⟨n.toArray⟩, .string ⟨d.toArray⟩, .string ⟨c.toArray⟩, .string ⟨e.toArray⟩, .string ⟨m.toArray⟩, .string ⟨k.toArray⟩] t)) (some ⟨w.heap.size, 0, Option.none⟩) [((a, s), (n, d)), ((c, e), (m, k))] := fun j x hx => by
 match j with
 | 0 =>
  obtain rfl : ((a, s), (n, d)) = x := Option.some.inj hx
  exact ⟨w.heap.size, 0, rfl, by simp, cell_new _ _ _ _ rfl 0, cell_new _ _ _ _ rfl 1, cell_new _ _ _ _ rfl 2, cell_new _ _ _ _ rfl 3⟩
 | 1 =>
  obtain rfl : ((c, e), (m, k)) = x := Option.some.inj hx
  exact ⟨w.heap.size, 0, rfl, by simp, cell_new _ _ _ _ rfl 4, cell_new _ _ _ _ rfl 5, cell_new _ _ _ _ rfl 6, cell_new _ _ _ _ rfl 7⟩
 | _ + 2 => cases hx
theorem may_one (x : In) : mayI [x] = oneB x := by
 show ([0].all (okIn [x])) = _
 rw [List.all_cons, List.all_nil, Bool.and_true]
 cases h : oneB x with
 | true => exact okIn_0 rfl h
 | false => exact okIn_no rfl h
theorem insOne (w : World) (x : In) (t : TypeId) (c : Array Value) (hc : c = (encI x).toArray) : Ins (w.alloc (.cells c t)) (some ⟨w.heap.size, 0, none⟩) [x] := ins_of (rowsOne w x t c hc)
set_option maxRecDepth 100000 in
set_option maxHeartbeats 4000000 in
theorem plines_no {i g u : Int} {f t a qn qd pn pd : List UInt8} (w : World)
  (CO : Hid (∀ w : World, Calls Tryz.prog 16 #[.slice (some ⟨w.heap.size, 0, none⟩) 1 1] (w.alloc (.cells #[.int .i64 i, .int .i64 g, .int .i64 u, .string ⟨f.toArray⟩, .string ⟨t.toArray⟩, .string ⟨a.toArray⟩, .string ⟨qn.toArray⟩, .string ⟨qd.toArray⟩, .string ⟨pn.toArray⟩, .string ⟨pd.toArray⟩] 37)) (GiveB (w.alloc (.cells #[.int .i64 i, .int .i64 g, .int .i64 u, .string ⟨f.toArray⟩, .string ⟨t.toArray⟩, .string ⟨a.toArray⟩, .string ⟨qn.toArray⟩, .string ⟨qd.toArray⟩, .string ⟨pn.toArray⟩, .string ⟨pd.toArray⟩] 37)) false))) :
  Calls Tryz.prog 14 #[.agg #[.int .i64 i, .int .i64 g, .int .i64 u, .string ⟨f.toArray⟩, .string ⟨t.toArray⟩, .string ⟨a.toArray⟩, .string ⟨qn.toArray⟩, .string ⟨qd.toArray⟩, .string ⟨pn.toArray⟩, .string ⟨pd.toArray⟩]] w (GiveLI w []) := by
 go_enter Tryz.func14, Tryz.ntmps14
 go_wp2_with fail
 have BW := Below.refl w.heap.size w
 have b0 : Below w.heap.size w w := Below.refl _ _
 obtain ⟨U1, hU, bU, s1, rx0, rx1, rx2, rx3, rx4, rx5, rx6, rx7, rx8, rx9⟩ := lay10 b0 (.int .i64 i) (.int .i64 g) (.int .i64 u) (.string ⟨f.toArray⟩) (.string ⟨t.toArray⟩) (.string ⟨a.toArray⟩) (.string ⟨qn.toArray⟩) (.string ⟨qd.toArray⟩) (.string ⟨pn.toArray⟩) (.string ⟨pd.toArray⟩) 37
 rw [hU]; clear hU
 have S1 := Lib.hid s1
 clear s1
 replace BW := Below.more BW bU
 clear bU
 have b1 := Below.refl U1.heap.size U1
 go_wp2_with fail
 rw [S1.out]
 refine (CO.out _).mono ?_
 rintro e w2 ⟨rfl, b⟩
 have b2 : Below U1.heap.size U1 w2 := (Below.step _ (Below.refl _ _)).trans (b.mono (by simp))
 clear b
 go_wp2_with fail
 go_ret
 exact ⟨⟨none, 0, rfl, Nat.le_refl _, Lns.nil _ _⟩, Below.more BW b2⟩
set_option maxRecDepth 100000 in
set_option maxHeartbeats 4000000 in
theorem plines_two {i g u : Int} {f t a qn qd pn pd : List UInt8} {x y : List UInt8} (w : World)
  (CO : Hid (∀ w : World, Calls Tryz.prog 16 #[.slice (some ⟨w.heap.size, 0, none⟩) 1 1] (w.alloc (.cells #[.int .i64 i, .int .i64 g, .int .i64 u, .string ⟨f.toArray⟩, .string ⟨t.toArray⟩, .string ⟨a.toArray⟩, .string ⟨qn.toArray⟩, .string ⟨qd.toArray⟩, .string ⟨pn.toArray⟩, .string ⟨pd.toArray⟩] 37)) (GiveB (w.alloc (.cells #[.int .i64 i, .int .i64 g, .int .i64 u, .string ⟨f.toArray⟩, .string ⟨t.toArray⟩, .string ⟨a.toArray⟩, .string ⟨qn.toArray⟩, .string ⟨qd.toArray⟩, .string ⟨pn.toArray⟩, .string ⟨pd.toArray⟩] 37)) true)))
  (CN : Hid (∀ w, Calls Tryz.prog 38 #[.agg #[.string ⟨qn.toArray⟩, .string ⟨qd.toArray⟩]] w (GiveR w (x, y))))
  (CP : Hid (∀ w, Calls Tryz.prog 39 #[.agg #[.string ⟨pn.toArray⟩, .string ⟨pd.toArray⟩]] w (GiveI w 0))) :
  Calls Tryz.prog 14 #[.agg #[.int .i64 i, .int .i64 g, .int .i64 u, .string ⟨f.toArray⟩, .string ⟨t.toArray⟩, .string ⟨a.toArray⟩, .string ⟨qn.toArray⟩, .string ⟨qd.toArray⟩, .string ⟨pn.toArray⟩, .string ⟨pd.toArray⟩]] w (GiveLI w [((f, a), (x, y)), ((t, a), (qn, qd))]) := by
 go_enter Tryz.func14, Tryz.ntmps14
 go_wp2_with fail
 have BW := Below.refl w.heap.size w
 have b0 : Below w.heap.size w w := Below.refl _ _
 obtain ⟨U1, hU, bU, s1, rx0, rx1, rx2, rx3, rx4, rx5, rx6, rx7, rx8, rx9⟩ := lay10 b0 (.int .i64 i) (.int .i64 g) (.int .i64 u) (.string ⟨f.toArray⟩) (.string ⟨t.toArray⟩) (.string ⟨a.toArray⟩) (.string ⟨qn.toArray⟩) (.string ⟨qd.toArray⟩) (.string ⟨pn.toArray⟩) (.string ⟨pd.toArray⟩) 37
 rw [hU]; clear hU
 have S1 := Lib.hid s1
 clear s1
 replace BW := Below.more BW bU
 clear bU
 have b1 := Below.refl U1.heap.size U1
 go_wp2_with fail
 rw [S1.out]
 refine (CO.out _).mono ?_
 rintro e w2 ⟨rfl, b⟩
 have b2 : Below U1.heap.size U1 w2 := (Below.step _ (Below.refl _ _)).trans (b.mono (by simp))
 clear b
 have hB := Lib.hid (Nat.le_refl U1.heap.size)
 go_wp2_with fail
 refine wp_region_noPanic ?_
 refine wp_region_held_drew (S := fun w' => Below U1.heap.size U1 w') (by kernel_rfl) (b2.drew) (fun hH0 => ?_)
 refine sch_in [0, 1, 2, 3, 4, 5, 8, 9, 10, 11, 12, 13, 14] ?_
 iterate 13 (refine sch_yes (v := ?_) rfl (by kernel_rfl) (by rfl) ?_ (by assumption) ?_; rotate_left 1; (· (intro w hSw; (try dsimp only at hSw); go_simp <;> (with_reducible rfl))); try simp only [Act.put, qA, qB, qC, qD, qE, qF])
 refine sch_out ?_
 refine wpAnyH_ready (rs := [6]) (by kernel_rfl) (by simp) ?_
 refine AllReadyH.cons rfl (fun K hK => ?_) AllReadyH.nil
 go_simp
 refine (held (W := U1) hB.out (CN.out _) (by assumption)).mono ?_
 rintro e w'' ⟨rfl, hb, hw⟩
 (try go_wp2_with fail)
 refine hK.out _ _ hw (fun hH1 => ?_)
 clear hK hH0 hb
 try simp only [Act.put, qA, qB, qC, qD, qE, qF]
 refine wpAnyH_take (i := 7) (v := ?_) rfl (by kernel_rfl) (by kernel_rfl) (by kernel_rfl) (fun _ _ _ h => h) (Or.inl ⟨by rfl, ?_⟩) (by assumption) ?_
 rotate_left 1
 ·(intro w hSw; (try dsimp only at hSw); go_simp <;> (with_reducible rfl))
 try simp only [Act.put, qA, qB, qC, qD, qE, qF]
 refine wpAnyH_ready (rs := [15]) (by kernel_rfl) (by simp) ?_
 refine AllReadyH.cons rfl (fun K hK => ?_) AllReadyH.nil
 go_simp
 refine hK.out _ _ (Below.alloc hH1 (Below.size hH1) _) (fun hH2 => ?_)
 clear hK
 try simp only [Act.put, qA, qB, qC, qD, qE, qF]
 have hO := own_two w'' (Below.size hH1) f a x y t a qn qd
 clear hH1 hw
 generalize hW3 : w''.alloc (.cells #[.string ⟨f.toArray⟩, .string ⟨a.toArray⟩, .string ⟨x.toArray⟩, .string ⟨y.toArray⟩, .string ⟨t.toArray⟩, .string ⟨a.toArray⟩, .string ⟨qn.toArray⟩, .string ⟨qd.toArray⟩] 46) = w3 at *
 clear hW3
 generalize (Value.slice (some ⟨w''.heap.size, 0, none⟩) 2 2) = sl at *
 refine wpAnyH_take (i := 16) (v := ?_) rfl (by kernel_rfl) (by kernel_rfl) (by kernel_rfl) (fun _ _ _ h => h) (Or.inl ⟨by rfl, ?_⟩) (by assumption) ?_
 rotate_left 1
 ·(intro w hSw; (try dsimp only at hSw); go_simp <;> (with_reducible rfl))
 try simp only [Act.put, qA, qB, qC, qD, qE, qF]
 refine wpAnyH_done (by kernel_rfl) ?_ _
 refine NoPanic.normal ?_
 have b3 := hH2
 clear hH2
 have HO := Lib.hid hO
 clear hO
 go_wp2_with fail
 refine (CP.out _).mono ?_
 rintro e w4 ⟨rfl, bb⟩
 have b4 := Below.trans b3 (bb.mono (Below.size b3))
 have HO4 := Lib.hid (own_below HO.out bb)
 clear bb HO b3
 go_wp2_with fail
 obtain ⟨p', c', rfl, hc', hL', _⟩ := own_lns HO4.out
 have HL := Lib.hid hL'
 clear hL' HO4
 go_ret
 exact ⟨⟨p', c', rfl, hc', HL.out⟩, Below.more BW b4⟩
set_option maxRecDepth 100000 in
set_option maxHeartbeats 4000000 in
theorem plines_four {i g u : Int} {f t a qn qd pn pd : List UInt8} {x y z v : List UInt8} {sp : Int} (h : ¬ sp = 0) (w : World)
  (CO : Hid (∀ w : World, Calls Tryz.prog 16 #[.slice (some ⟨w.heap.size, 0, none⟩) 1 1] (w.alloc (.cells #[.int .i64 i, .int .i64 g, .int .i64 u, .string ⟨f.toArray⟩, .string ⟨t.toArray⟩, .string ⟨a.toArray⟩, .string ⟨qn.toArray⟩, .string ⟨qd.toArray⟩, .string ⟨pn.toArray⟩, .string ⟨pd.toArray⟩] 37)) (GiveB (w.alloc (.cells #[.int .i64 i, .int .i64 g, .int .i64 u, .string ⟨f.toArray⟩, .string ⟨t.toArray⟩, .string ⟨a.toArray⟩, .string ⟨qn.toArray⟩, .string ⟨qd.toArray⟩, .string ⟨pn.toArray⟩, .string ⟨pd.toArray⟩] 37)) true)))
  (CN : Hid (∀ w, Calls Tryz.prog 38 #[.agg #[.string ⟨qn.toArray⟩, .string ⟨qd.toArray⟩]] w (GiveR w (x, y))))
  (CP : Hid (∀ w, Calls Tryz.prog 39 #[.agg #[.string ⟨pn.toArray⟩, .string ⟨pd.toArray⟩]] w (GiveI w sp)))
  (CM : Hid (∀ w, Calls Tryz.prog 38 #[.agg #[.string ⟨pn.toArray⟩, .string ⟨pd.toArray⟩]] w (GiveR w (z, v)))) :
  Calls Tryz.prog 14 #[.agg #[.int .i64 i, .int .i64 g, .int .i64 u, .string ⟨f.toArray⟩, .string ⟨t.toArray⟩, .string ⟨a.toArray⟩, .string ⟨qn.toArray⟩, .string ⟨qd.toArray⟩, .string ⟨pn.toArray⟩, .string ⟨pd.toArray⟩]] w (GiveLI w ([((f, a), (x, y)), ((t, a), (qn, qd))] ++ [((t, [99, 97, 115, 104]), (z, v)), ((f, [99, 97, 115, 104]), (pn, pd))])) := by
 go_enter Tryz.func14, Tryz.ntmps14
 go_wp2_with fail
 have BW := Below.refl w.heap.size w
 have b0 : Below w.heap.size w w := Below.refl _ _
 obtain ⟨U1, hU, bU, s1, rx0, rx1, rx2, rx3, rx4, rx5, rx6, rx7, rx8, rx9⟩ := lay10 b0 (.int .i64 i) (.int .i64 g) (.int .i64 u) (.string ⟨f.toArray⟩) (.string ⟨t.toArray⟩) (.string ⟨a.toArray⟩) (.string ⟨qn.toArray⟩) (.string ⟨qd.toArray⟩) (.string ⟨pn.toArray⟩) (.string ⟨pd.toArray⟩) 37
 rw [hU]; clear hU
 have S1 := Lib.hid s1
 clear s1
 replace BW := Below.more BW bU
 clear bU
 have b1 := Below.refl U1.heap.size U1
 go_wp2_with fail
 rw [S1.out]
 refine (CO.out _).mono ?_
 rintro e w2 ⟨rfl, b⟩
 have b2 : Below U1.heap.size U1 w2 := (Below.step _ (Below.refl _ _)).trans (b.mono (by simp))
 clear b
 have hB := Lib.hid (Nat.le_refl U1.heap.size)
 go_wp2_with fail
 refine wp_region_noPanic ?_
 refine wp_region_held_drew (S := fun w' => Below U1.heap.size U1 w') (by kernel_rfl) (b2.drew) (fun hH0 => ?_)
 refine sch_in [0, 1, 2, 3, 4, 5, 8, 9, 10, 11, 12, 13, 14] ?_
 iterate 13 (refine sch_yes (v := ?_) rfl (by kernel_rfl) (by rfl) ?_ (by assumption) ?_; rotate_left 1; (· (intro w hSw; (try dsimp only at hSw); go_simp <;> (with_reducible rfl))); try simp only [Act.put, qA, qB, qC, qD, qE, qF])
 refine sch_out ?_
 refine wpAnyH_ready (rs := [6]) (by kernel_rfl) (by simp) ?_
 refine AllReadyH.cons rfl (fun K hK => ?_) AllReadyH.nil
 go_simp
 refine (held (W := U1) hB.out (CN.out _) (by assumption)).mono ?_
 rintro e w'' ⟨rfl, hb, hw⟩
 (try go_wp2_with fail)
 refine hK.out _ _ hw (fun hH1 => ?_)
 clear hK hH0 hb
 try simp only [Act.put, qA, qB, qC, qD, qE, qF]
 refine wpAnyH_take (i := 7) (v := ?_) rfl (by kernel_rfl) (by kernel_rfl) (by kernel_rfl) (fun _ _ _ h => h) (Or.inl ⟨by rfl, ?_⟩) (by assumption) ?_
 rotate_left 1
 ·(intro w hSw; (try dsimp only at hSw); go_simp <;> (with_reducible rfl))
 try simp only [Act.put, qA, qB, qC, qD, qE, qF]
 refine wpAnyH_ready (rs := [15]) (by kernel_rfl) (by simp) ?_
 refine AllReadyH.cons rfl (fun K hK => ?_) AllReadyH.nil
 go_simp
 refine hK.out _ _ (Below.alloc hH1 (Below.size hH1) _) (fun hH2 => ?_)
 clear hK
 try simp only [Act.put, qA, qB, qC, qD, qE, qF]
 have hO := own_two w'' (Below.size hH1) f a x y t a qn qd
 clear hH1 hw
 generalize hW3 : w''.alloc (.cells #[.string ⟨f.toArray⟩, .string ⟨a.toArray⟩, .string ⟨x.toArray⟩, .string ⟨y.toArray⟩, .string ⟨t.toArray⟩, .string ⟨a.toArray⟩, .string ⟨qn.toArray⟩, .string ⟨qd.toArray⟩] 46) = w3 at *
 clear hW3
 generalize (Value.slice (some ⟨w''.heap.size, 0, none⟩) 2 2) = sl at *
 refine wpAnyH_take (i := 16) (v := ?_) rfl (by kernel_rfl) (by kernel_rfl) (by kernel_rfl) (fun _ _ _ h => h) (Or.inl ⟨by rfl, ?_⟩) (by assumption) ?_
 rotate_left 1
 ·(intro w hSw; (try dsimp only at hSw); go_simp <;> (with_reducible rfl))
 try simp only [Act.put, qA, qB, qC, qD, qE, qF]
 refine wpAnyH_done (by kernel_rfl) ?_ _
 refine NoPanic.normal ?_
 have b3 := hH2
 clear hH2
 have HO := Lib.hid hO
 clear hO
 go_wp2_with fail
 refine (CP.out _).mono ?_
 rintro e w4 ⟨rfl, bb⟩
 have b4 := Below.trans b3 (bb.mono (Below.size b3))
 have HO4 := Lib.hid (own_below HO.out bb)
 clear bb HO b3
 go_wp2_with fail
 refine wp_region_noPanic ?_
 refine wp_region_held_drew (S := fun w' => Below U1.heap.size U1 w') (by kernel_rfl) (b4.drew) (fun hH0 => ?_)
 have hOd := World.ownsRow.drew HO4.out
 refine sch_in [0, 1, 2, 3, 4, 7, 8, 9, 10, 11] ?_
 iterate 10 (refine sch_yes (v := ?_) rfl (by kernel_rfl) (by rfl) ?_ (by assumption) ?_; rotate_left 1; (· (intro w hSw; (try dsimp only at hSw); go_simp <;> (with_reducible rfl))); try simp only [Act.put, qA, qB, qC, qD, qE, qF])
 refine sch_out ?_
 refine wpAnyH_ready (rs := [5]) (by kernel_rfl) (by simp) ?_
 refine AllReadyH.cons rfl (fun K hK => ?_) AllReadyH.nil
 go_simp
 refine (heldO (CM.out _) hH0 hOd (Nat.le_refl _)).mono ?_
 rintro e w'' ⟨rfl, hw2, hO2⟩
 (try go_wp2_with fail)
 refine hK.out _ _ hw2 (fun hH1 => ?_)
 clear hK hH0 hOd
 try simp only [Act.put, qA, qB, qC, qD, qE, qF]
 refine sch_in [6] ?_
 iterate 1 (refine sch_yes (v := ?_) rfl (by kernel_rfl) (by rfl) ?_ (by assumption) ?_; rotate_left 1; (· (intro w hSw; (try dsimp only at hSw); go_simp <;> (with_reducible rfl))); try simp only [Act.put, qA, qB, qC, qD, qE, qF])
 refine sch_out ?_
 refine wpAnyH_ready (rs := [12]) (by kernel_rfl) (by simp) ?_
 refine AllReadyH.cons rfl (fun K hK => ?_) AllReadyH.nil
 go_simp
 refine hK.out _ _ (Below.alloc hH1 (Below.size hH1) _) (fun hH2 => ?_)
 clear hK hw2
 try simp only [Act.put, qA, qB, qC, qD, qE, qF]
 have L3 := lnsTwo w'' t [99, 97, 115, 104] z v f [99, 97, 115, 104] pn pd 46
 have hO3 := World.ownsRow.alloc hO2 (.cells #[.string ⟨t.toArray⟩, .string ⟨[99, 97, 115, 104].toArray⟩, .string ⟨z.toArray⟩, .string ⟨v.toArray⟩, .string ⟨f.toArray⟩, .string ⟨[99, 97, 115, 104].toArray⟩, .string ⟨pn.toArray⟩, .string ⟨pd.toArray⟩] 46)
 generalize w''.alloc (.cells #[.string ⟨t.toArray⟩, .string ⟨[99, 97, 115, 104].toArray⟩, .string ⟨z.toArray⟩, .string ⟨v.toArray⟩, .string ⟨f.toArray⟩, .string ⟨[99, 97, 115, 104].toArray⟩, .string ⟨pn.toArray⟩, .string ⟨pd.toArray⟩] 46) = w3 at *
 refine wpAnyH_ready (rs := [13]) (by kernel_rfl) (by simp) ?_
 refine AllReadyH.cons rfl (fun K hK => ?_) AllReadyH.nil
 rw [if_pos (by rfl)]
 refine wp_append_lns _ _ 22 rfl U1.heap.size Tryz.underlying22 _ [((f, a), (x, y)), ((t, a), (qn, qd))] rfl hO3 (some ⟨w''.heap.size, 0, none⟩) [((t, [99, 97, 115, 104]), (z, v)), ((f, [99, 97, 115, 104]), (pn, pd))] 2 rfl L3 (show 2 ≤ 3000000 by decide) (show 2 ≤ 3000000 by decide) (Below.size hH2) ?_
 intro v' w6 hO4 hB4
 refine hK.out _ _ (hH2.trans hB4) (fun hH3 => ?_)
 clear hK
 try simp only [Act.put, qA, qB, qC, qD, qE, qF]
 refine sch_in [14] ?_
 iterate 1 (refine sch_yes (v := ?_) rfl (by kernel_rfl) (by rfl) ?_ (by assumption) ?_; rotate_left 1; (· (intro w hSw; (try dsimp only at hSw); go_simp <;> (with_reducible rfl))); try simp only [Act.put, qA, qB, qC, qD, qE, qF])
 refine sch_out ?_
 refine wpAnyH_done (by kernel_rfl) ?_ _
 refine NoPanic.normal ?_
 have b6 := hH3
 obtain ⟨p', c', rfl, hc', hL', _⟩ := own_lns hO4
 have HL := Lib.hid hL'
 clear hO4 hH3 hH2 hH1 hB4 hO3 hO2 L3 HO4 b4 hL'
 go_wp2_with fail
 go_ret
 exact ⟨⟨p', c', rfl, hc', HL.out⟩, Below.more BW b6⟩
theorem plines_any {i g u : Int} {f t a qn qd pn pd : List UInt8} (w : World) (hz : SzI (In.mk i g u f t a (qn, qd) (pn, pd))) :
  Calls Tryz.prog 14 #[.agg #[.int .i64 i, .int .i64 g, .int .i64 u, .string ⟨f.toArray⟩, .string ⟨t.toArray⟩, .string ⟨a.toArray⟩, .string ⟨qn.toArray⟩, .string ⟨qd.toArray⟩, .string ⟨pn.toArray⟩, .string ⟨pd.toArray⟩]] w (GiveLI w (linesI (In.mk i g u f t a (qn, qd) (pn, pd)))) := by
 have co : ∀ w : World, Calls Tryz.prog 16 #[.slice (some ⟨w.heap.size, 0, none⟩) 1 1] (w.alloc (.cells #[.int .i64 i, .int .i64 g, .int .i64 u, .string ⟨f.toArray⟩, .string ⟨t.toArray⟩, .string ⟨a.toArray⟩, .string ⟨qn.toArray⟩, .string ⟨qd.toArray⟩, .string ⟨pn.toArray⟩, .string ⟨pd.toArray⟩] 37)) (GiveB (w.alloc (.cells #[.int .i64 i, .int .i64 g, .int .i64 u, .string ⟨f.toArray⟩, .string ⟨t.toArray⟩, .string ⟨a.toArray⟩, .string ⟨qn.toArray⟩, .string ⟨qd.toArray⟩, .string ⟨pn.toArray⟩, .string ⟨pd.toArray⟩] 37)) (oneB (In.mk i g u f t a (qn, qd) (pn, pd)))) := fun w => by
  have h := imay_any (some ⟨w.heap.size, 0, none⟩) 1 [In.mk i g u f t a (qn, qd) (pn, pd)] (w.alloc (.cells #[.int .i64 i, .int .i64 g, .int .i64 u, .string ⟨f.toArray⟩, .string ⟨t.toArray⟩, .string ⟨a.toArray⟩, .string ⟨qn.toArray⟩, .string ⟨qd.toArray⟩, .string ⟨pn.toArray⟩, .string ⟨pd.toArray⟩] 37)) (show 1 ≤ 1000000 by decide) (fun x hx => by obtain rfl := List.mem_singleton.1 hx; exact hz) (insOne w _ _ _ rfl)
  rw [may_one] at h
  exact h
 obtain ⟨_, ⟨z4, z5⟩, z6, z7⟩ := hz
 dsimp only at z4 z5 z6 z7
 have cn := fun w => qneg_any ⟨qn.toArray⟩ ⟨qd.toArray⟩ w (by rw [size_of]; omega) (by rw [size_of]; omega)
 have cp : ∀ w, Calls Tryz.prog 39 #[.agg #[.string ⟨pn.toArray⟩, .string ⟨pd.toArray⟩]] w (GiveI w (sgnR (pn, pd))) := fun w => qsign_any ⟨pn.toArray⟩ ⟨pd.toArray⟩ w (by rw [size_of]; omega) (by rw [size_of]; omega)
 have cm := fun w => qneg_any ⟨pn.toArray⟩ ⟨pd.toArray⟩ w (by rw [size_of]; omega) (by rw [size_of]; omega)
 unfold linesI
 cases h1 : oneB (In.mk i g u f t a (qn, qd) (pn, pd)) with
 | false => rw [h1] at co; exact plines_no w (Lib.hid co)
 | true =>
 rw [h1] at co
 have hs : 0 ≤ sgnR (pn, pd) := (one_parts h1).2.2.2.2.2
 by_cases h2 : sgnR (pn, pd) = 0
 ·have e : payL (In.mk i g u f t a (qn, qd) (pn, pd)) = [] := if_neg (show ¬ 0 < sgnR (pn, pd) by omega)
  rw [if_pos rfl, e, List.append_nil]
  rw [h2] at cp
  exact plines_two w (Lib.hid co) (Lib.hid cn) (Lib.hid cp)
 ·have e : payL (In.mk i g u f t a (qn, qd) (pn, pd)) = [((t, cashT), negR (pn, pd)), ((f, cashT), (pn, pd))] := if_pos (show 0 < sgnR (pn, pd) by omega)
  rw [if_pos rfl, e]
  exact plines_four h2 w (Lib.hid co) (Lib.hid cn) (Lib.hid cp) (Lib.hid cm)
end Go.Proofs.YtagfndkfjbbpjaaGreatDoor
