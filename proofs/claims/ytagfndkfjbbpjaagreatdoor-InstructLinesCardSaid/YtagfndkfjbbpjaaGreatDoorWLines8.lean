/- The walk of InstructLines. -/
import Derived.Test.YtagfndkfjbbpjaaGreatDoorSch
import Derived.Test.YtagfndkfjbbpjaaGreatDoorWTells8
namespace Go.Proofs.YtagfndkfjbbpjaaGreatDoor
open Go.RowKit
set_option linter.unusedSimpArgs false
set_option linter.unusedVariables false
variable {G : World → Prop}
structure Ten (b : Nat) (xs : List Value) (w : World) : Prop where
 lt : b < w.heap.size
 c : ∀ i x, xs[i]? = some x → w.cell? ⟨b, i, none⟩ = some x
 f : ∀ i, i < xs.length → w.frozen? ⟨b, i, none⟩ = false
theorem Ten.below {b : Nat} {xs : List Value} {w w' : World} (h : Ten b xs w) (hb : Below w.heap.size w w') : Ten b xs w' :=
 ⟨Nat.lt_of_lt_of_le h.lt hb.size, fun i x e => (hb.cell (p := ⟨b, i, none⟩) h.lt).trans (h.c i x e), fun i e => (hb.frozen (p := ⟨b, i, none⟩) h.lt).trans (h.f i e)⟩
theorem ten_new (w : World) (cs : Array Value) (t : TypeId) : Ten w.heap.size cs.toList (w.alloc (.cells cs t)) :=
 ⟨by simp, fun i x e => (cell_new w _ _ _ rfl i).trans (by simpa using e), fun i _ => by rw [frozen?_alloc_cells]; simp [World.frozen?]⟩
theorem Ten.set {b : Nat} {xs : List Value} {w : World} (h : Ten b xs w) (k : Nat) (hk : k < xs.length) (x : Value) : Ten b (xs.set k x) (w.setCell ⟨b, k, none⟩ x) := by
 have old : ∃ y, w.cell? ⟨b, k, none⟩ = some y := ⟨_, h.c k _ (List.getElem?_eq_getElem hk)⟩
 refine ⟨by rw [size_setCell]; exact h.lt, fun i y e => ?_, fun i e => by rw [World.frozen?_setCell]; exact h.f i (by simpa using e)⟩
 by_cases hi : k = i
 ·subst hi
  rw [List.getElem?_set_self hk] at e
  obtain ⟨z, hz⟩ := old
  rw [← Option.some.inj e]
  exact World.cell?_setCell_same' _ _ _ (by rw [hz]; rfl)
 ·rw [List.getElem?_set_ne hi] at e
  rw [cell?_setCell_ne _ _ _ _ _ hi]
  exact h.c i y e
set_option maxRecDepth 100000 in
set_option maxHeartbeats 4000000 in
theorem ilines_a (H : InsC G) {i g u : Int} {f t a qn qd pn pd : List UInt8} (w : World) (hg : G w)
  (CS : Hid (∀ V q, Ins V q [(In.mk i g u f t a (qn, qd) (pn, pd))] → Calls Tryz.prog 9 #[.slice q 1 1] V (GiveB V false))) :
  Calls Tryz.prog 6 #[.agg #[.int .i64 i, .int .i64 g, .int .i64 u, .string ⟨f.toArray⟩, .string ⟨t.toArray⟩, .string ⟨a.toArray⟩, .string ⟨qn.toArray⟩, .string ⟨qd.toArray⟩, .string ⟨pn.toArray⟩, .string ⟨pd.toArray⟩]] w (GiveB w true) := by
 have HB := Lib.hid H; have HT := Lib.hid hg; clear H hg
 go_enter Tryz.func6, Tryz.ntmps6
 go_wp2_with fail
 have BW := Below.refl w.heap.size w
 have b0 : Below w.heap.size w w := Below.refl _ _
 obtain ⟨U1, hU, bU, s1, rx0, rx1, rx2, rx3, rx4, rx5, rx6, rx7, rx8, rx9⟩ := lay10 b0 (.int .i64 i) (.int .i64 g) (.int .i64 u) (.string ⟨f.toArray⟩) (.string ⟨t.toArray⟩) (.string ⟨a.toArray⟩) (.string ⟨qn.toArray⟩) (.string ⟨qd.toArray⟩) (.string ⟨pn.toArray⟩) (.string ⟨pd.toArray⟩) 37
 rw [hU]; clear hU s1
 replace BW := Below.more BW bU
 replace HT := Lib.hid (HB.out.below HT.out bU)
 clear bU
 have b1 := Below.refl U1.heap.size U1
 refine (fixed8_any HB.out _ (HB.out.below HT.out b1)).mono ?_
 rintro e w2 ⟨rfl, b⟩
 have b2 := Below.more b1 b
 clear b
 go_wp2_with fail
 obtain ⟨U3, hU⟩ : ∃ U, w2.alloc (.cells #[.int .i64 i, .int .i64 g, .int .i64 u, .string ⟨f.toArray⟩, .string ⟨t.toArray⟩, .string ⟨a.toArray⟩, .string ⟨qn.toArray⟩, .string ⟨qd.toArray⟩, .string ⟨pn.toArray⟩, .string ⟨pd.toArray⟩] 37) = U := ⟨_, rfl⟩
 have hrow := ins_one w2 (In.mk i g u f t a (qn, qd) (pn, pd)) 37 #[.int .i64 i, .int .i64 g, .int .i64 u, .string ⟨f.toArray⟩, .string ⟨t.toArray⟩, .string ⟨a.toArray⟩, .string ⟨qn.toArray⟩, .string ⟨qd.toArray⟩, .string ⟨pn.toArray⟩, .string ⟨pd.toArray⟩] rfl
 have bU := Below.alloc b2 (Below.size b2) (.cells #[.int .i64 i, .int .i64 g, .int .i64 u, .string ⟨f.toArray⟩, .string ⟨t.toArray⟩, .string ⟨a.toArray⟩, .string ⟨qn.toArray⟩, .string ⟨qd.toArray⟩, .string ⟨pn.toArray⟩, .string ⟨pd.toArray⟩] 37)
 rw [hU] at hrow bU ⊢
 clear hU
 replace rx0 := fun v (h : Below U3.heap.size U3 v) => rx0 v (Below.more bU h)
 replace rx1 := fun v (h : Below U3.heap.size U3 v) => rx1 v (Below.more bU h)
 replace rx2 := fun v (h : Below U3.heap.size U3 v) => rx2 v (Below.more bU h)
 replace rx3 := fun v (h : Below U3.heap.size U3 v) => rx3 v (Below.more bU h)
 replace rx4 := fun v (h : Below U3.heap.size U3 v) => rx4 v (Below.more bU h)
 replace rx5 := fun v (h : Below U3.heap.size U3 v) => rx5 v (Below.more bU h)
 replace rx6 := fun v (h : Below U3.heap.size U3 v) => rx6 v (Below.more bU h)
 replace rx7 := fun v (h : Below U3.heap.size U3 v) => rx7 v (Below.more bU h)
 replace rx8 := fun v (h : Below U3.heap.size U3 v) => rx8 v (Below.more bU h)
 replace rx9 := fun v (h : Below U3.heap.size U3 v) => rx9 v (Below.more bU h)
 replace BW := Below.more BW bU
 replace HT := Lib.hid (HB.out.below HT.out bU)
 have Ls := Lib.hid hrow
 clear hrow bU
 have b3 := Below.refl U3.heap.size U3
 refine (CS.out _ _ (Ls.out.below b3)).mono ?_
 rintro e w4 ⟨rfl, b⟩
 have b4 := Below.more b3 b
 clear b
 go_wp2_with fail
 refine (fixed8_any HB.out _ (HB.out.below HT.out b4)).mono ?_
 rintro e w5 ⟨rfl, b⟩
 have b5 := Below.more b4 b
 clear b
 go_wp2_with fail
 go_ret
 exact ⟨rfl, Below.more BW b5⟩
set_option maxRecDepth 100000 in
set_option maxHeartbeats 4000000 in
theorem ilines_b (H : InsC G) {i g u : Int} {f t a qn qd pn pd : List UInt8} (w : World) (hg : G w)
  (CS : Hid (∀ V q, Ins V q [(In.mk i g u f t a (qn, qd) (pn, pd))] → Calls Tryz.prog 9 #[.slice q 1 1] V (GiveB V true)))
  (CO : Hid (∀ V, Calls Tryz.prog 27 #[.agg #[.int .i64 i, .int .i64 g, .int .i64 u, .string ⟨f.toArray⟩, .string ⟨t.toArray⟩, .string ⟨a.toArray⟩, .string ⟨qn.toArray⟩, .string ⟨qd.toArray⟩, .string ⟨pn.toArray⟩, .string ⟨pd.toArray⟩]] V (GiveB V false))) :
  Calls Tryz.prog 6 #[.agg #[.int .i64 i, .int .i64 g, .int .i64 u, .string ⟨f.toArray⟩, .string ⟨t.toArray⟩, .string ⟨a.toArray⟩, .string ⟨qn.toArray⟩, .string ⟨qd.toArray⟩, .string ⟨pn.toArray⟩, .string ⟨pd.toArray⟩]] w (GiveB w true) := by
 have HB := Lib.hid H; have HT := Lib.hid hg; clear H hg
 go_enter Tryz.func6, Tryz.ntmps6
 go_wp2_with fail
 have BW := Below.refl w.heap.size w
 have b0 : Below w.heap.size w w := Below.refl _ _
 obtain ⟨U1, hU, bU, s1, rx0, rx1, rx2, rx3, rx4, rx5, rx6, rx7, rx8, rx9⟩ := lay10 b0 (.int .i64 i) (.int .i64 g) (.int .i64 u) (.string ⟨f.toArray⟩) (.string ⟨t.toArray⟩) (.string ⟨a.toArray⟩) (.string ⟨qn.toArray⟩) (.string ⟨qd.toArray⟩) (.string ⟨pn.toArray⟩) (.string ⟨pd.toArray⟩) 37
 rw [hU]; clear hU s1
 replace BW := Below.more BW bU
 replace HT := Lib.hid (HB.out.below HT.out bU)
 clear bU
 have b1 := Below.refl U1.heap.size U1
 refine (fixed8_any HB.out _ (HB.out.below HT.out b1)).mono ?_
 rintro e w2 ⟨rfl, b⟩
 have b2 := Below.more b1 b
 clear b
 go_wp2_with fail
 obtain ⟨U3, hU⟩ : ∃ U, w2.alloc (.cells #[.int .i64 i, .int .i64 g, .int .i64 u, .string ⟨f.toArray⟩, .string ⟨t.toArray⟩, .string ⟨a.toArray⟩, .string ⟨qn.toArray⟩, .string ⟨qd.toArray⟩, .string ⟨pn.toArray⟩, .string ⟨pd.toArray⟩] 37) = U := ⟨_, rfl⟩
 have hrow := ins_one w2 (In.mk i g u f t a (qn, qd) (pn, pd)) 37 #[.int .i64 i, .int .i64 g, .int .i64 u, .string ⟨f.toArray⟩, .string ⟨t.toArray⟩, .string ⟨a.toArray⟩, .string ⟨qn.toArray⟩, .string ⟨qd.toArray⟩, .string ⟨pn.toArray⟩, .string ⟨pd.toArray⟩] rfl
 have bU := Below.alloc b2 (Below.size b2) (.cells #[.int .i64 i, .int .i64 g, .int .i64 u, .string ⟨f.toArray⟩, .string ⟨t.toArray⟩, .string ⟨a.toArray⟩, .string ⟨qn.toArray⟩, .string ⟨qd.toArray⟩, .string ⟨pn.toArray⟩, .string ⟨pd.toArray⟩] 37)
 rw [hU] at hrow bU ⊢
 clear hU
 replace rx0 := fun v (h : Below U3.heap.size U3 v) => rx0 v (Below.more bU h)
 replace rx1 := fun v (h : Below U3.heap.size U3 v) => rx1 v (Below.more bU h)
 replace rx2 := fun v (h : Below U3.heap.size U3 v) => rx2 v (Below.more bU h)
 replace rx3 := fun v (h : Below U3.heap.size U3 v) => rx3 v (Below.more bU h)
 replace rx4 := fun v (h : Below U3.heap.size U3 v) => rx4 v (Below.more bU h)
 replace rx5 := fun v (h : Below U3.heap.size U3 v) => rx5 v (Below.more bU h)
 replace rx6 := fun v (h : Below U3.heap.size U3 v) => rx6 v (Below.more bU h)
 replace rx7 := fun v (h : Below U3.heap.size U3 v) => rx7 v (Below.more bU h)
 replace rx8 := fun v (h : Below U3.heap.size U3 v) => rx8 v (Below.more bU h)
 replace rx9 := fun v (h : Below U3.heap.size U3 v) => rx9 v (Below.more bU h)
 replace BW := Below.more BW bU
 replace HT := Lib.hid (HB.out.below HT.out bU)
 have Ls := Lib.hid hrow
 clear hrow bU
 have b3 := Below.refl U3.heap.size U3
 refine (CS.out _ _ (Ls.out.below b3)).mono ?_
 rintro e w4 ⟨rfl, b⟩
 have b4 := Below.more b3 b
 clear b
 go_wp2_with fail
 refine (CO.out _).mono ?_
 rintro e w5 ⟨rfl, b⟩
 have b5 := Below.more b4 b
 clear b
 go_wp2_with fail
 refine (fixed8_any HB.out _ (HB.out.below HT.out b5)).mono ?_
 rintro e w6 ⟨rfl, b⟩
 have b6 := Below.more b5 b
 clear b
 go_wp2_with fail
 go_ret
 exact ⟨rfl, Below.more BW b6⟩
set_option maxRecDepth 100000 in
set_option maxHeartbeats 4000000 in
theorem ilines_2 (H : InsC G) {i g u : Int} {f t a qn qd pn pd : List UInt8} {nn nd : List UInt8} (w : World) (hg : G w) (LX LY : List Ln) (S : Nat → Key) (hx0 : LX[0]? = some ((f, a), (nn, nd))) (hx1 : LX[1]? = some ((t, a), (qn, qd))) (hlx : LX.length = 2) (hy0 : LY[0]? = some ((t, a), (nn, nd))) (hy1 : LY[1]? = some ((f, a), (qn, qd))) (hS : S 2 = ([48], [49]))
  (CS : Hid (∀ V q, Ins V q [(In.mk i g u f t a (qn, qd) (pn, pd))] → Calls Tryz.prog 9 #[.slice q 1 1] V (GiveB V true)))
  (CO : Hid (∀ V, Calls Tryz.prog 27 #[.agg #[.int .i64 i, .int .i64 g, .int .i64 u, .string ⟨f.toArray⟩, .string ⟨t.toArray⟩, .string ⟨a.toArray⟩, .string ⟨qn.toArray⟩, .string ⟨qd.toArray⟩, .string ⟨pn.toArray⟩, .string ⟨pd.toArray⟩]] V (GiveB V true)))
  (CL : Hid (∀ V, G V → Calls Tryz.prog 14 #[.agg #[.int .i64 i, .int .i64 g, .int .i64 u, .string ⟨f.toArray⟩, .string ⟨t.toArray⟩, .string ⟨a.toArray⟩, .string ⟨qn.toArray⟩, .string ⟨qd.toArray⟩, .string ⟨pn.toArray⟩, .string ⟨pd.toArray⟩]] V (fun e w' => (∃ p c, e = .returned (.slice p 2 c) ∧ 2 ≤ c ∧ Lns w' p LX) ∧ Below V.heap.size V w')))
  (CY : Hid (∀ V, G V → Calls Tryz.prog 14 #[.agg #[.int .i64 i, .int .i64 g, .int .i64 u, .string ⟨t.toArray⟩, .string ⟨f.toArray⟩, .string ⟨a.toArray⟩, .string ⟨qn.toArray⟩, .string ⟨qd.toArray⟩, .string ⟨#[48]⟩, .string ⟨#[49]⟩]] V (fun e w' => (∃ p c, e = .returned (.slice p 2 c) ∧ 2 ≤ c ∧ Lns w' p LY) ∧ Below V.heap.size V w')))
  (C0 : Hid (∀ V, Calls Tryz.prog 28 #[.int .i64 0] V (GiveR V ([48], [49]))))
  (CA : Hid (∀ (k : Nat) (x : Ln), 2 ≤ k → LX[k]? = some x → ∀ V, Calls Tryz.prog 29 #[.agg #[.string ⟨(S k).1.toArray⟩, .string ⟨(S k).2.toArray⟩], .agg #[.string ⟨x.2.1.toArray⟩, .string ⟨x.2.2.toArray⟩]] V (GiveR V (S (k + 1)))))
  (CG : Hid (∀ V, Calls Tryz.prog 24 #[.agg #[.string ⟨(S 2).1.toArray⟩, .string ⟨(S 2).2.toArray⟩]] V (GiveI V 0)))
  (CP : Hid (∀ V, Calls Tryz.prog 24 #[.agg #[.string ⟨pn.toArray⟩, .string ⟨pd.toArray⟩]] V (GiveI V 0)))
  (C2 : Hid (∀ V, Calls Tryz.prog 29 #[.agg #[.string ⟨nn.toArray⟩, .string ⟨nd.toArray⟩], .agg #[.string ⟨qn.toArray⟩, .string ⟨qd.toArray⟩]] V (GiveR V ([48], [49]))))
  (CN : Hid (∀ V, Calls Tryz.prog 30 #[.agg #[.string ⟨qn.toArray⟩, .string ⟨qd.toArray⟩]] V (GiveR V (nn, nd)))) :
  Calls Tryz.prog 6 #[.agg #[.int .i64 i, .int .i64 g, .int .i64 u, .string ⟨f.toArray⟩, .string ⟨t.toArray⟩, .string ⟨a.toArray⟩, .string ⟨qn.toArray⟩, .string ⟨qd.toArray⟩, .string ⟨pn.toArray⟩, .string ⟨pd.toArray⟩]] w (GiveB w true) := by
 have HS0 := Lib.hid hS
 clear hS
 have HB := Lib.hid H; have HT := Lib.hid hg; clear H hg
 go_enter Tryz.func6, Tryz.ntmps6
 go_wp2_with fail
 have BW := Below.refl w.heap.size w
 have b0 : Below w.heap.size w w := Below.refl _ _
 obtain ⟨U1, hU, bU, s1, rx0, rx1, rx2, rx3, rx4, rx5, rx6, rx7, rx8, rx9⟩ := lay10 b0 (.int .i64 i) (.int .i64 g) (.int .i64 u) (.string ⟨f.toArray⟩) (.string ⟨t.toArray⟩) (.string ⟨a.toArray⟩) (.string ⟨qn.toArray⟩) (.string ⟨qd.toArray⟩) (.string ⟨pn.toArray⟩) (.string ⟨pd.toArray⟩) 37
 rw [hU]; clear hU s1
 replace BW := Below.more BW bU
 replace HT := Lib.hid (HB.out.below HT.out bU)
 clear bU
 have b1 := Below.refl U1.heap.size U1
 refine (fixed8_any HB.out _ (HB.out.below HT.out b1)).mono ?_
 rintro e w2 ⟨rfl, b⟩
 have b2 := Below.more b1 b
 clear b
 go_wp2_with fail
 obtain ⟨U3, hU⟩ : ∃ U, w2.alloc (.cells #[.int .i64 i, .int .i64 g, .int .i64 u, .string ⟨f.toArray⟩, .string ⟨t.toArray⟩, .string ⟨a.toArray⟩, .string ⟨qn.toArray⟩, .string ⟨qd.toArray⟩, .string ⟨pn.toArray⟩, .string ⟨pd.toArray⟩] 37) = U := ⟨_, rfl⟩
 have hrow := ins_one w2 (In.mk i g u f t a (qn, qd) (pn, pd)) 37 #[.int .i64 i, .int .i64 g, .int .i64 u, .string ⟨f.toArray⟩, .string ⟨t.toArray⟩, .string ⟨a.toArray⟩, .string ⟨qn.toArray⟩, .string ⟨qd.toArray⟩, .string ⟨pn.toArray⟩, .string ⟨pd.toArray⟩] rfl
 have bU := Below.alloc b2 (Below.size b2) (.cells #[.int .i64 i, .int .i64 g, .int .i64 u, .string ⟨f.toArray⟩, .string ⟨t.toArray⟩, .string ⟨a.toArray⟩, .string ⟨qn.toArray⟩, .string ⟨qd.toArray⟩, .string ⟨pn.toArray⟩, .string ⟨pd.toArray⟩] 37)
 rw [hU] at hrow bU ⊢
 clear hU
 replace rx0 := fun v (h : Below U3.heap.size U3 v) => rx0 v (Below.more bU h)
 replace rx1 := fun v (h : Below U3.heap.size U3 v) => rx1 v (Below.more bU h)
 replace rx2 := fun v (h : Below U3.heap.size U3 v) => rx2 v (Below.more bU h)
 replace rx3 := fun v (h : Below U3.heap.size U3 v) => rx3 v (Below.more bU h)
 replace rx4 := fun v (h : Below U3.heap.size U3 v) => rx4 v (Below.more bU h)
 replace rx5 := fun v (h : Below U3.heap.size U3 v) => rx5 v (Below.more bU h)
 replace rx6 := fun v (h : Below U3.heap.size U3 v) => rx6 v (Below.more bU h)
 replace rx7 := fun v (h : Below U3.heap.size U3 v) => rx7 v (Below.more bU h)
 replace rx8 := fun v (h : Below U3.heap.size U3 v) => rx8 v (Below.more bU h)
 replace rx9 := fun v (h : Below U3.heap.size U3 v) => rx9 v (Below.more bU h)
 replace BW := Below.more BW bU
 replace HT := Lib.hid (HB.out.below HT.out bU)
 have Ls := Lib.hid hrow
 clear hrow bU
 have b3 := Below.refl U3.heap.size U3
 refine (CS.out _ _ (Ls.out.below b3)).mono ?_
 rintro e w4 ⟨rfl, b⟩
 have b4 := Below.more b3 b
 clear b
 go_wp2_with fail
 refine (CO.out _).mono ?_
 rintro e w5 ⟨rfl, b⟩
 have b5 := Below.more b4 b
 clear b
 go_wp2_with fail
 refine (CL.out _ (HB.out.below HT.out b5)).mono ?_
 rintro e U6 ⟨⟨pr1, c1, rfl, hc1, hl1⟩, b⟩
 have bU := Below.more b5 b
 clear b
 replace rx0 := fun v (h : Below U6.heap.size U6 v) => rx0 v (Below.more bU h)
 replace rx1 := fun v (h : Below U6.heap.size U6 v) => rx1 v (Below.more bU h)
 replace rx2 := fun v (h : Below U6.heap.size U6 v) => rx2 v (Below.more bU h)
 replace rx3 := fun v (h : Below U6.heap.size U6 v) => rx3 v (Below.more bU h)
 replace rx4 := fun v (h : Below U6.heap.size U6 v) => rx4 v (Below.more bU h)
 replace rx5 := fun v (h : Below U6.heap.size U6 v) => rx5 v (Below.more bU h)
 replace rx6 := fun v (h : Below U6.heap.size U6 v) => rx6 v (Below.more bU h)
 replace rx7 := fun v (h : Below U6.heap.size U6 v) => rx7 v (Below.more bU h)
 replace rx8 := fun v (h : Below U6.heap.size U6 v) => rx8 v (Below.more bU h)
 replace rx9 := fun v (h : Below U6.heap.size U6 v) => rx9 v (Below.more bU h)
 replace Ls := Lib.hid (Ls.out.below bU)
 replace BW := Below.more BW bU
 replace HT := Lib.hid (HB.out.below HT.out bU)
 have L1 := Lib.hid hl1
 clear hl1 bU
 have b6 := Below.refl U6.heap.size U6
 have ba := fun x => Below.alloc b6 (Below.size b6) x
 go_upto_region 7 with fail
 obtain ⟨UY, hU⟩ : ∃ U, U6.alloc (.cells #[.int .i64 i, .int .i64 g, .int .i64 u, .string ⟨t.toArray⟩, .string ⟨f.toArray⟩, .string ⟨a.toArray⟩, .string ⟨qn.toArray⟩, .string ⟨qd.toArray⟩, .string ⟨pn.toArray⟩, .string ⟨pd.toArray⟩] 37) = U := ⟨_, rfl⟩
 have ty := ten_new U6 #[.int .i64 i, .int .i64 g, .int .i64 u, .string ⟨t.toArray⟩, .string ⟨f.toArray⟩, .string ⟨a.toArray⟩, .string ⟨qn.toArray⟩, .string ⟨qd.toArray⟩, .string ⟨pn.toArray⟩, .string ⟨pd.toArray⟩] 37
 have bY := ba (.cells #[.int .i64 i, .int .i64 g, .int .i64 u, .string ⟨t.toArray⟩, .string ⟨f.toArray⟩, .string ⟨a.toArray⟩, .string ⟨qn.toArray⟩, .string ⟨qd.toArray⟩, .string ⟨pn.toArray⟩, .string ⟨pd.toArray⟩] 37)
 rw [hU] at ty bY ⊢
 clear hU ba
 go_wp2_with fail
 refine (C0.out _).mono ?_
 rintro e wy ⟨rfl, b⟩
 have by1 := Below.more bY b
 replace ty := ty.below b
 clear b
 have y8 := ty.c 8 _ rfl; have y9 := ty.c 9 _ rfl; have f8 := ty.f 8 (by show 8 < 10; decide); have f9 := ty.f 9 (by show 9 < 10; decide)
 go_upto_region 8 with fail
 obtain ⟨UZ, hU⟩ : ∃ U, (wy.setCell ⟨U6.heap.size, 8, none⟩ (.string ⟨#[48]⟩)).setCell ⟨U6.heap.size, 9, none⟩ (.string ⟨#[49]⟩) = U := ⟨_, rfl⟩
 have tz := (ty.set 8 (by show 8 < 10; decide) (.string ⟨#[48]⟩)).set 9 (by show 9 < 10; decide) (.string ⟨#[49]⟩)
 have bZ : Below U6.heap.size U6 ((wy.setCell ⟨U6.heap.size, 8, none⟩ (.string ⟨#[48]⟩)).setCell ⟨U6.heap.size, 9, none⟩ (.string ⟨#[49]⟩)) := Below.setCell (Below.setCell by1 (Nat.le_refl _) _) (Nat.le_refl _) _
 rw [hU] at tz bZ ⊢
 clear hU ty y8 y9 f8 f9 by1 bY
 have y0 := tz.c 0 _ rfl
 have y1 := tz.c 1 _ rfl
 have y2 := tz.c 2 _ rfl
 have y3 := tz.c 3 _ rfl
 have y4 := tz.c 4 _ rfl
 have y5 := tz.c 5 _ rfl
 have y6 := tz.c 6 _ rfl
 have y7 := tz.c 7 _ rfl
 have y8 := tz.c 8 _ rfl
 have y9 := tz.c 9 _ rfl
 clear tz
 go_wp2_with fail
 refine (CY.out _ (HB.out.below HT.out bZ)).mono ?_
 rintro e U7 ⟨⟨pr2, c2, rfl, hc2, hl2⟩, b⟩
 have bU := Below.more bZ b
 clear b
 replace rx0 := fun v (h : Below U7.heap.size U7 v) => rx0 v (Below.more bU h)
 replace rx1 := fun v (h : Below U7.heap.size U7 v) => rx1 v (Below.more bU h)
 replace rx2 := fun v (h : Below U7.heap.size U7 v) => rx2 v (Below.more bU h)
 replace rx3 := fun v (h : Below U7.heap.size U7 v) => rx3 v (Below.more bU h)
 replace rx4 := fun v (h : Below U7.heap.size U7 v) => rx4 v (Below.more bU h)
 replace rx5 := fun v (h : Below U7.heap.size U7 v) => rx5 v (Below.more bU h)
 replace rx6 := fun v (h : Below U7.heap.size U7 v) => rx6 v (Below.more bU h)
 replace rx7 := fun v (h : Below U7.heap.size U7 v) => rx7 v (Below.more bU h)
 replace rx8 := fun v (h : Below U7.heap.size U7 v) => rx8 v (Below.more bU h)
 replace rx9 := fun v (h : Below U7.heap.size U7 v) => rx9 v (Below.more bU h)
 replace Ls := Lib.hid (Ls.out.below bU)
 replace L1 := Lib.hid (L1.out.below bU)
 replace BW := Below.more BW bU
 replace HT := Lib.hid (HB.out.below HT.out bU)
 have L2 := Lib.hid hl2
 clear hl2 bU
 have b7 := Below.refl U7.heap.size U7
 clear y0 y1 y2 y3 y4 y5 y6 y7 y8 y9
 go_wp2_with fail
 refine (C0.out _).mono ?_
 rintro e w8 ⟨rfl, b⟩
 have b8 := Below.more b7 b
 clear b
 have hz := zc_new w8 (.string ⟨#[48]⟩) (.string ⟨#[49]⟩) 35
 have bz : Below U7.heap.size U7 _ := Below.alloc b8 (Below.size b8) (.cells #[.string ⟨#[48]⟩, .string ⟨#[49]⟩] 35)
 have hbs : U7.heap.size ≤ w8.heap.size := Below.size b8
 go_upto_region 10 with fail
 generalize w8.alloc (.cells #[.string ⟨#[48]⟩, .string ⟨#[49]⟩] 35) = V at hz bz ⊢
 generalize w8.heap.size = bs at hz hbs ⊢
 have HBS := Lib.hid hbs
 clear hbs
 go_wp2_with fail
 go_loopw [7] (fun i wr => ∃ k : Nat, 2 ≤ k ∧ k ≤ 2 ∧ i = .int .i64 k ∧ Zc bs (.string ⟨(S k).1.toArray⟩) (.string ⟨(S k).2.toArray⟩) wr ∧ Below U7.heap.size U7 wr) (fun i _ => 2 - (intOf i).toNat)
 case atStart => exact ⟨2, by decide, by decide, rfl, by rw [HS0.out]; exact hz, bz⟩
 case round =>
  obtain ⟨k, hk2, hk, rfl, hz', hbr⟩ := hrel
  by_cases hlt' : k < 2
  ·obtain ⟨⟨⟨ya, ys⟩, ⟨x1, x2⟩⟩, hx⟩ : ∃ x, LX[k]? = some x := ⟨_, List.getElem?_eq_getElem (by omega)⟩
   have hrule := L1.out.rule hx
   have hca := CA.out k _ hk2 hx
   dsimp only at hca
   have CAk := Lib.hid hca
   clear hca
   have hzd := hz'.drew
   have z0 := hzd.c0; have z1 := hzd.c1
   have hB := Lib.hid (Nat.le_refl U7.heap.size)
   clear hz' bz hz
   obtain ⟨b, o, hp, k0, k1, k2, k3⟩ := hrule
   subst hp
   clear CA hx rx0 rx1 rx2 rx3 rx4 rx5 rx6 rx7 rx8 rx9
   have hk0 : (0 : Int) ≤ (k : Int) := by omega
   have hkn : (k : Int) < 2 := by omega
   go_wp2_with fail
   refine wp_region_noPanic ?_
   refine wp_region_held_drew (S := fun w' => Below U7.heap.size U7 w') (by kernel_rfl) (hbr.drew) (fun hH0 => ?_)
   refine sch_in [1, 2, 3, 4, 5] ?_
   iterate 5 (refine sch_yes (v := ?_) rfl (by kernel_rfl) (by rfl) ?_ (by assumption) ?_; rotate_left 1; (· (intro w hSw; (try dsimp only at hSw); go_simp <;> (with_reducible rfl))); try simp only [Act.put, qA, qB, qC, qD, qE, qF])
   refine sch_out ?_
   refine wpAnyH_ready (rs := [0]) (by kernel_rfl) (by simp) ?_
   refine AllReadyH.cons rfl (fun K hK => ?_) AllReadyH.nil
   go_simp
   refine hK.out _ _ hH0 (fun hH1 => ?_)
   clear hK hH0
   try simp only [Act.put, qA, qB, qC, qD, qE, qF]
   refine wpAnyH_ready (rs := [6]) (by kernel_rfl) (by simp) ?_
   refine AllReadyH.cons rfl (fun K hK => ?_) AllReadyH.nil
   go_simp
   refine (held (W := U7) hB.out (CAk.out _) hH1).mono ?_
   rintro e w'' ⟨rfl, hb, hw⟩
   have hz2 := hzd.below hb
   clear hzd z0 z1
   have z0 := hz2.c0; have z1 := hz2.c1; have z2 := hz2.f0; have z3 := hz2.f1
   (try go_wp2_with fail)
   refine hK.out _ _ hw (fun hH2 => ?_)
   clear hK hH1 hb
   try simp only [Act.put, qA, qB, qC, qD, qE, qF]
   refine wpAnyH_ready (rs := [7]) (by kernel_rfl) (by simp) ?_
   refine AllReadyH.cons rfl (fun K hK => ?_) AllReadyH.nil
   go_simp
   refine hK.out _ _ (put2 hH2 HBS.out _ _) (fun hH3 => ?_)
   clear hK hH2
   try simp only [Act.put, qA, qB, qC, qD, qE, qF]
   refine wpAnyH_done (by kernel_rfl) ?_ _
   refine NoPanic.normal ?_
   have hZ := Lib.hid (zc_put (x := .string ⟨(S (k + 1)).1.toArray⟩) (y := .string ⟨(S (k + 1)).2.toArray⟩) hz2)
   have b9 := hH3
   clear hz2 hH3 z0 z1 z2 z3 hw hbr CAk
   generalize (w''.setCell ⟨bs, 0, none⟩ (.string ⟨(S (k + 1)).1.toArray⟩)).setCell ⟨bs, 1, none⟩ (.string ⟨(S (k + 1)).2.toArray⟩) = wq at hZ b9 ⊢
   go_wp2_with fail
   go_roundw
   case rel => exact ⟨k + 1, by omega, hlt', by go_num, hZ.out, b9⟩
   case measure => simp [intOf]; omega
  ·obtain rfl : k = 2 := by omega
   have HZ := Lib.hid hz'
   clear hz' CA hz bz hk2 hk
   replace rx0 := fun v (h : Below wr.heap.size wr v) => rx0 v (Below.more hbr h)
   replace rx1 := fun v (h : Below wr.heap.size wr v) => rx1 v (Below.more hbr h)
   replace rx2 := fun v (h : Below wr.heap.size wr v) => rx2 v (Below.more hbr h)
   replace rx3 := fun v (h : Below wr.heap.size wr v) => rx3 v (Below.more hbr h)
   replace rx4 := fun v (h : Below wr.heap.size wr v) => rx4 v (Below.more hbr h)
   replace rx5 := fun v (h : Below wr.heap.size wr v) => rx5 v (Below.more hbr h)
   replace rx6 := fun v (h : Below wr.heap.size wr v) => rx6 v (Below.more hbr h)
   replace rx7 := fun v (h : Below wr.heap.size wr v) => rx7 v (Below.more hbr h)
   replace rx8 := fun v (h : Below wr.heap.size wr v) => rx8 v (Below.more hbr h)
   replace rx9 := fun v (h : Below wr.heap.size wr v) => rx9 v (Below.more hbr h)
   replace Ls := Lib.hid (Ls.out.below hbr)
   replace L1 := Lib.hid (L1.out.below hbr)
   replace L2 := Lib.hid (L2.out.below hbr)
   replace BW := Below.more BW hbr
   replace HT := Lib.hid (HB.out.below HT.out hbr)
   have ra0 := fun v (h : Below wr.heap.size wr v) => (HZ.out.below h).c0
   have ra1 := fun v (h : Below wr.heap.size wr v) => (HZ.out.below h).c1
   clear HZ hbr
   have b40 := Below.refl wr.heap.size wr
   go_wp2_with fail
   refine (CG.out _).mono ?_
   rintro e w41 ⟨rfl, b⟩
   have b41 := Below.more b40 b
   clear b
   go_wp2_with fail
   refine (CP.out _).mono ?_
   rintro e w42 ⟨rfl, b⟩
   have b42 := Below.more b41 b
   clear b
   obtain ⟨b, o, hp, k0, k1, k2, k3⟩ := L1.out.rule hx0
   obtain ⟨b', o', hp', j0, j1, j2, j3⟩ := L1.out.rule hx1
   obtain ⟨rfl, rfl⟩ : b = b' ∧ o = o' := by
    have := Option.some.inj (hp.symm.trans hp')
    exact ⟨congrArg Addr.block this, congrArg Addr.off this⟩
   subst hp
   obtain ⟨d, v, hq, m0, m1, m2, m3⟩ := L2.out.rule hy0
   obtain ⟨d', v', hq', n0, n1, n2, n3⟩ := L2.out.rule hy1
   obtain ⟨rfl, rfl⟩ : d = d' ∧ v = v' := by
    have := Option.some.inj (hq.symm.trans hq')
    exact ⟨congrArg Addr.block this, congrArg Addr.off this⟩
   subst hq
   clear hp' hq' L1 L2 Ls
   simp only [Nat.zero_mul, Nat.add_zero, Nat.one_mul] at k0 k1 k2 k3 j0 j1 j2 j3 m0 m1 m2 m3 n0 n1 n2 n3
   have hB := Lib.hid (Nat.le_refl wr.heap.size)
   go_wp2_with fail
   refine wp_region_noPanic ?_
   refine wp_region_held_drew (S := fun w' => Below wr.heap.size wr w') (by kernel_rfl) (b42.drew) (fun hH0 => ?_)
   refine sch_in [0, 1, 2, 3, 4, 5, 6, 7] ?_
   iterate 8 (refine sch_yes (v := ?_) rfl (by kernel_rfl) (by rfl) ?_ (by assumption) ?_; rotate_left 1; (· (intro w hSw; (try dsimp only at hSw); go_simp <;> (with_reducible rfl))); try simp only [Act.put, qA, qB, qC, qD, qE, qF])
   refine sch_out ?_
   refine wpAnyH_ready (rs := [8]) (by kernel_rfl) (by simp) ?_
   refine AllReadyH.cons rfl (fun K hK => ?_) AllReadyH.nil
   go_simp
   refine (held (W := wr) hB.out (C2.out _) (by assumption)).mono ?_
   rintro e w'' ⟨rfl, hb, hw⟩
   (try go_wp2_with fail)
   refine hK.out _ _ hw (fun hH1 => ?_)
   clear hK hH0 hb
   try simp only [Act.put, qA, qB, qC, qD, qE, qF]
   refine wpAnyH_ready (rs := [9]) (by kernel_rfl) (by simp) ?_
   refine AllReadyH.cons rfl (fun K hK => ?_) AllReadyH.nil
   go_simp
   refine (held (W := wr) hB.out (C0.out _) (by assumption)).mono ?_
   rintro e w'' ⟨rfl, hb, hw⟩
   (try go_wp2_with fail)
   refine hK.out _ _ hw (fun hH2 => ?_)
   clear hK hH1 hb
   try simp only [Act.put, qA, qB, qC, qD, qE, qF]
   refine sch_in [10, 11, 12, 13, 14, 15, 16, 17, 18, 19, 20, 21, 22, 23, 24, 25, 26, 27, 28, 29, 30] ?_
   iterate 21 (refine sch_yes (v := ?_) rfl (by kernel_rfl) (by rfl) ?_ (by assumption) ?_; rotate_left 1; (· (intro w hSw; (try dsimp only at hSw); go_simp <;> (with_reducible rfl))); try simp only [Act.put, qA, qB, qC, qD, qE, qF])
   refine sch_out ?_
   refine wpAnyH_ready (rs := [31]) (by kernel_rfl) (by simp) ?_
   refine AllReadyH.cons rfl (fun K hK => ?_) AllReadyH.nil
   go_simp
   refine (held (W := wr) hB.out (CN.out _) (by assumption)).mono ?_
   rintro e w'' ⟨rfl, hb, hw⟩
   (try go_wp2_with fail)
   refine hK.out _ _ hw (fun hH3 => ?_)
   clear hK hH2 hb
   try simp only [Act.put, qA, qB, qC, qD, qE, qF]
   refine sch_in [32, 33, 34, 35, 36, 37, 38, 39, 40, 41, 42, 43, 44, 45] ?_
   iterate 14 (refine sch_yes (v := ?_) rfl (by kernel_rfl) (by rfl) ?_ (by assumption) ?_; rotate_left 1; (· (intro w hSw; (try dsimp only at hSw); go_simp <;> (with_reducible rfl))); try simp only [Act.put, qA, qB, qC, qD, qE, qF])
   refine sch_out ?_
   refine wpAnyH_done (by kernel_rfl) ?_ _
   refine NoPanic.normal ?_
   have b60 := hw
   clear hw
   go_wp2_with fail
   go_ret
   exact ⟨rfl, Below.more BW b60⟩
set_option maxRecDepth 100000 in
set_option maxHeartbeats 4000000 in
theorem ilines_4 (H : InsC G) {i g u : Int} {f t a qn qd pn pd : List UInt8} {nn nd : List UInt8} (w : World) (hg : G w) (LX LY : List Ln) (S : Nat → Key) (hx0 : LX[0]? = some ((f, a), (nn, nd))) (hx1 : LX[1]? = some ((t, a), (qn, qd))) (hlx : LX.length = 4) (hy0 : LY[0]? = some ((t, a), (nn, nd))) (hy1 : LY[1]? = some ((f, a), (qn, qd))) (hS : S 2 = ([48], [49])) (sp : Int) (hsp : 0 < sp)
  (CS : Hid (∀ V q, Ins V q [(In.mk i g u f t a (qn, qd) (pn, pd))] → Calls Tryz.prog 9 #[.slice q 1 1] V (GiveB V true)))
  (CO : Hid (∀ V, Calls Tryz.prog 27 #[.agg #[.int .i64 i, .int .i64 g, .int .i64 u, .string ⟨f.toArray⟩, .string ⟨t.toArray⟩, .string ⟨a.toArray⟩, .string ⟨qn.toArray⟩, .string ⟨qd.toArray⟩, .string ⟨pn.toArray⟩, .string ⟨pd.toArray⟩]] V (GiveB V true)))
  (CL : Hid (∀ V, G V → Calls Tryz.prog 14 #[.agg #[.int .i64 i, .int .i64 g, .int .i64 u, .string ⟨f.toArray⟩, .string ⟨t.toArray⟩, .string ⟨a.toArray⟩, .string ⟨qn.toArray⟩, .string ⟨qd.toArray⟩, .string ⟨pn.toArray⟩, .string ⟨pd.toArray⟩]] V (fun e w' => (∃ p c, e = .returned (.slice p 4 c) ∧ 4 ≤ c ∧ Lns w' p LX) ∧ Below V.heap.size V w')))
  (CY : Hid (∀ V, G V → Calls Tryz.prog 14 #[.agg #[.int .i64 i, .int .i64 g, .int .i64 u, .string ⟨t.toArray⟩, .string ⟨f.toArray⟩, .string ⟨a.toArray⟩, .string ⟨qn.toArray⟩, .string ⟨qd.toArray⟩, .string ⟨#[48]⟩, .string ⟨#[49]⟩]] V (fun e w' => (∃ p c, e = .returned (.slice p 2 c) ∧ 2 ≤ c ∧ Lns w' p LY) ∧ Below V.heap.size V w')))
  (C0 : Hid (∀ V, Calls Tryz.prog 28 #[.int .i64 0] V (GiveR V ([48], [49]))))
  (CA : Hid (∀ (k : Nat) (x : Ln), 2 ≤ k → LX[k]? = some x → ∀ V, Calls Tryz.prog 29 #[.agg #[.string ⟨(S k).1.toArray⟩, .string ⟨(S k).2.toArray⟩], .agg #[.string ⟨x.2.1.toArray⟩, .string ⟨x.2.2.toArray⟩]] V (GiveR V (S (k + 1)))))
  (CG : Hid (∀ V, Calls Tryz.prog 24 #[.agg #[.string ⟨(S 4).1.toArray⟩, .string ⟨(S 4).2.toArray⟩]] V (GiveI V 0)))
  (CP : Hid (∀ V, Calls Tryz.prog 24 #[.agg #[.string ⟨pn.toArray⟩, .string ⟨pd.toArray⟩]] V (GiveI V sp)))
  (C2 : Hid (∀ V, Calls Tryz.prog 29 #[.agg #[.string ⟨nn.toArray⟩, .string ⟨nd.toArray⟩], .agg #[.string ⟨qn.toArray⟩, .string ⟨qd.toArray⟩]] V (GiveR V ([48], [49]))))
  (CN : Hid (∀ V, Calls Tryz.prog 30 #[.agg #[.string ⟨qn.toArray⟩, .string ⟨qd.toArray⟩]] V (GiveR V (nn, nd)))) :
  Calls Tryz.prog 6 #[.agg #[.int .i64 i, .int .i64 g, .int .i64 u, .string ⟨f.toArray⟩, .string ⟨t.toArray⟩, .string ⟨a.toArray⟩, .string ⟨qn.toArray⟩, .string ⟨qd.toArray⟩, .string ⟨pn.toArray⟩, .string ⟨pd.toArray⟩]] w (GiveB w true) := by
 have HS0 := Lib.hid hS
 clear hS
 have HB := Lib.hid H; have HT := Lib.hid hg; clear H hg
 go_enter Tryz.func6, Tryz.ntmps6
 go_wp2_with fail
 have BW := Below.refl w.heap.size w
 have b0 : Below w.heap.size w w := Below.refl _ _
 obtain ⟨U1, hU, bU, s1, rx0, rx1, rx2, rx3, rx4, rx5, rx6, rx7, rx8, rx9⟩ := lay10 b0 (.int .i64 i) (.int .i64 g) (.int .i64 u) (.string ⟨f.toArray⟩) (.string ⟨t.toArray⟩) (.string ⟨a.toArray⟩) (.string ⟨qn.toArray⟩) (.string ⟨qd.toArray⟩) (.string ⟨pn.toArray⟩) (.string ⟨pd.toArray⟩) 37
 rw [hU]; clear hU s1
 replace BW := Below.more BW bU
 replace HT := Lib.hid (HB.out.below HT.out bU)
 clear bU
 have b1 := Below.refl U1.heap.size U1
 refine (fixed8_any HB.out _ (HB.out.below HT.out b1)).mono ?_
 rintro e w2 ⟨rfl, b⟩
 have b2 := Below.more b1 b
 clear b
 go_wp2_with fail
 obtain ⟨U3, hU⟩ : ∃ U, w2.alloc (.cells #[.int .i64 i, .int .i64 g, .int .i64 u, .string ⟨f.toArray⟩, .string ⟨t.toArray⟩, .string ⟨a.toArray⟩, .string ⟨qn.toArray⟩, .string ⟨qd.toArray⟩, .string ⟨pn.toArray⟩, .string ⟨pd.toArray⟩] 37) = U := ⟨_, rfl⟩
 have hrow := ins_one w2 (In.mk i g u f t a (qn, qd) (pn, pd)) 37 #[.int .i64 i, .int .i64 g, .int .i64 u, .string ⟨f.toArray⟩, .string ⟨t.toArray⟩, .string ⟨a.toArray⟩, .string ⟨qn.toArray⟩, .string ⟨qd.toArray⟩, .string ⟨pn.toArray⟩, .string ⟨pd.toArray⟩] rfl
 have bU := Below.alloc b2 (Below.size b2) (.cells #[.int .i64 i, .int .i64 g, .int .i64 u, .string ⟨f.toArray⟩, .string ⟨t.toArray⟩, .string ⟨a.toArray⟩, .string ⟨qn.toArray⟩, .string ⟨qd.toArray⟩, .string ⟨pn.toArray⟩, .string ⟨pd.toArray⟩] 37)
 rw [hU] at hrow bU ⊢
 clear hU
 replace rx0 := fun v (h : Below U3.heap.size U3 v) => rx0 v (Below.more bU h)
 replace rx1 := fun v (h : Below U3.heap.size U3 v) => rx1 v (Below.more bU h)
 replace rx2 := fun v (h : Below U3.heap.size U3 v) => rx2 v (Below.more bU h)
 replace rx3 := fun v (h : Below U3.heap.size U3 v) => rx3 v (Below.more bU h)
 replace rx4 := fun v (h : Below U3.heap.size U3 v) => rx4 v (Below.more bU h)
 replace rx5 := fun v (h : Below U3.heap.size U3 v) => rx5 v (Below.more bU h)
 replace rx6 := fun v (h : Below U3.heap.size U3 v) => rx6 v (Below.more bU h)
 replace rx7 := fun v (h : Below U3.heap.size U3 v) => rx7 v (Below.more bU h)
 replace rx8 := fun v (h : Below U3.heap.size U3 v) => rx8 v (Below.more bU h)
 replace rx9 := fun v (h : Below U3.heap.size U3 v) => rx9 v (Below.more bU h)
 replace BW := Below.more BW bU
 replace HT := Lib.hid (HB.out.below HT.out bU)
 have Ls := Lib.hid hrow
 clear hrow bU
 have b3 := Below.refl U3.heap.size U3
 refine (CS.out _ _ (Ls.out.below b3)).mono ?_
 rintro e w4 ⟨rfl, b⟩
 have b4 := Below.more b3 b
 clear b
 go_wp2_with fail
 refine (CO.out _).mono ?_
 rintro e w5 ⟨rfl, b⟩
 have b5 := Below.more b4 b
 clear b
 go_wp2_with fail
 refine (CL.out _ (HB.out.below HT.out b5)).mono ?_
 rintro e U6 ⟨⟨pr1, c1, rfl, hc1, hl1⟩, b⟩
 have bU := Below.more b5 b
 clear b
 replace rx0 := fun v (h : Below U6.heap.size U6 v) => rx0 v (Below.more bU h)
 replace rx1 := fun v (h : Below U6.heap.size U6 v) => rx1 v (Below.more bU h)
 replace rx2 := fun v (h : Below U6.heap.size U6 v) => rx2 v (Below.more bU h)
 replace rx3 := fun v (h : Below U6.heap.size U6 v) => rx3 v (Below.more bU h)
 replace rx4 := fun v (h : Below U6.heap.size U6 v) => rx4 v (Below.more bU h)
 replace rx5 := fun v (h : Below U6.heap.size U6 v) => rx5 v (Below.more bU h)
 replace rx6 := fun v (h : Below U6.heap.size U6 v) => rx6 v (Below.more bU h)
 replace rx7 := fun v (h : Below U6.heap.size U6 v) => rx7 v (Below.more bU h)
 replace rx8 := fun v (h : Below U6.heap.size U6 v) => rx8 v (Below.more bU h)
 replace rx9 := fun v (h : Below U6.heap.size U6 v) => rx9 v (Below.more bU h)
 replace Ls := Lib.hid (Ls.out.below bU)
 replace BW := Below.more BW bU
 replace HT := Lib.hid (HB.out.below HT.out bU)
 have L1 := Lib.hid hl1
 clear hl1 bU
 have b6 := Below.refl U6.heap.size U6
 have ba := fun x => Below.alloc b6 (Below.size b6) x
 go_upto_region 7 with fail
 obtain ⟨UY, hU⟩ : ∃ U, U6.alloc (.cells #[.int .i64 i, .int .i64 g, .int .i64 u, .string ⟨t.toArray⟩, .string ⟨f.toArray⟩, .string ⟨a.toArray⟩, .string ⟨qn.toArray⟩, .string ⟨qd.toArray⟩, .string ⟨pn.toArray⟩, .string ⟨pd.toArray⟩] 37) = U := ⟨_, rfl⟩
 have ty := ten_new U6 #[.int .i64 i, .int .i64 g, .int .i64 u, .string ⟨t.toArray⟩, .string ⟨f.toArray⟩, .string ⟨a.toArray⟩, .string ⟨qn.toArray⟩, .string ⟨qd.toArray⟩, .string ⟨pn.toArray⟩, .string ⟨pd.toArray⟩] 37
 have bY := ba (.cells #[.int .i64 i, .int .i64 g, .int .i64 u, .string ⟨t.toArray⟩, .string ⟨f.toArray⟩, .string ⟨a.toArray⟩, .string ⟨qn.toArray⟩, .string ⟨qd.toArray⟩, .string ⟨pn.toArray⟩, .string ⟨pd.toArray⟩] 37)
 rw [hU] at ty bY ⊢
 clear hU ba
 go_wp2_with fail
 refine (C0.out _).mono ?_
 rintro e wy ⟨rfl, b⟩
 have by1 := Below.more bY b
 replace ty := ty.below b
 clear b
 have y8 := ty.c 8 _ rfl; have y9 := ty.c 9 _ rfl; have f8 := ty.f 8 (by show 8 < 10; decide); have f9 := ty.f 9 (by show 9 < 10; decide)
 go_upto_region 8 with fail
 obtain ⟨UZ, hU⟩ : ∃ U, (wy.setCell ⟨U6.heap.size, 8, none⟩ (.string ⟨#[48]⟩)).setCell ⟨U6.heap.size, 9, none⟩ (.string ⟨#[49]⟩) = U := ⟨_, rfl⟩
 have tz := (ty.set 8 (by show 8 < 10; decide) (.string ⟨#[48]⟩)).set 9 (by show 9 < 10; decide) (.string ⟨#[49]⟩)
 have bZ : Below U6.heap.size U6 ((wy.setCell ⟨U6.heap.size, 8, none⟩ (.string ⟨#[48]⟩)).setCell ⟨U6.heap.size, 9, none⟩ (.string ⟨#[49]⟩)) := Below.setCell (Below.setCell by1 (Nat.le_refl _) _) (Nat.le_refl _) _
 rw [hU] at tz bZ ⊢
 clear hU ty y8 y9 f8 f9 by1 bY
 have y0 := tz.c 0 _ rfl
 have y1 := tz.c 1 _ rfl
 have y2 := tz.c 2 _ rfl
 have y3 := tz.c 3 _ rfl
 have y4 := tz.c 4 _ rfl
 have y5 := tz.c 5 _ rfl
 have y6 := tz.c 6 _ rfl
 have y7 := tz.c 7 _ rfl
 have y8 := tz.c 8 _ rfl
 have y9 := tz.c 9 _ rfl
 clear tz
 go_wp2_with fail
 refine (CY.out _ (HB.out.below HT.out bZ)).mono ?_
 rintro e U7 ⟨⟨pr2, c2, rfl, hc2, hl2⟩, b⟩
 have bU := Below.more bZ b
 clear b
 replace rx0 := fun v (h : Below U7.heap.size U7 v) => rx0 v (Below.more bU h)
 replace rx1 := fun v (h : Below U7.heap.size U7 v) => rx1 v (Below.more bU h)
 replace rx2 := fun v (h : Below U7.heap.size U7 v) => rx2 v (Below.more bU h)
 replace rx3 := fun v (h : Below U7.heap.size U7 v) => rx3 v (Below.more bU h)
 replace rx4 := fun v (h : Below U7.heap.size U7 v) => rx4 v (Below.more bU h)
 replace rx5 := fun v (h : Below U7.heap.size U7 v) => rx5 v (Below.more bU h)
 replace rx6 := fun v (h : Below U7.heap.size U7 v) => rx6 v (Below.more bU h)
 replace rx7 := fun v (h : Below U7.heap.size U7 v) => rx7 v (Below.more bU h)
 replace rx8 := fun v (h : Below U7.heap.size U7 v) => rx8 v (Below.more bU h)
 replace rx9 := fun v (h : Below U7.heap.size U7 v) => rx9 v (Below.more bU h)
 replace Ls := Lib.hid (Ls.out.below bU)
 replace L1 := Lib.hid (L1.out.below bU)
 replace BW := Below.more BW bU
 replace HT := Lib.hid (HB.out.below HT.out bU)
 have L2 := Lib.hid hl2
 clear hl2 bU
 have b7 := Below.refl U7.heap.size U7
 clear y0 y1 y2 y3 y4 y5 y6 y7 y8 y9
 go_wp2_with fail
 refine (C0.out _).mono ?_
 rintro e w8 ⟨rfl, b⟩
 have b8 := Below.more b7 b
 clear b
 have hz := zc_new w8 (.string ⟨#[48]⟩) (.string ⟨#[49]⟩) 35
 have bz : Below U7.heap.size U7 _ := Below.alloc b8 (Below.size b8) (.cells #[.string ⟨#[48]⟩, .string ⟨#[49]⟩] 35)
 have hbs : U7.heap.size ≤ w8.heap.size := Below.size b8
 go_upto_region 10 with fail
 generalize w8.alloc (.cells #[.string ⟨#[48]⟩, .string ⟨#[49]⟩] 35) = V at hz bz ⊢
 generalize w8.heap.size = bs at hz hbs ⊢
 have HBS := Lib.hid hbs
 clear hbs
 go_wp2_with fail
 go_loopw [7] (fun i wr => ∃ k : Nat, 2 ≤ k ∧ k ≤ 4 ∧ i = .int .i64 k ∧ Zc bs (.string ⟨(S k).1.toArray⟩) (.string ⟨(S k).2.toArray⟩) wr ∧ Below U7.heap.size U7 wr) (fun i _ => 4 - (intOf i).toNat)
 case atStart => exact ⟨2, by decide, by decide, rfl, by rw [HS0.out]; exact hz, bz⟩
 case round =>
  obtain ⟨k, hk2, hk, rfl, hz', hbr⟩ := hrel
  by_cases hlt' : k < 4
  ·obtain ⟨⟨⟨ya, ys⟩, ⟨x1, x2⟩⟩, hx⟩ : ∃ x, LX[k]? = some x := ⟨_, List.getElem?_eq_getElem (by omega)⟩
   have hrule := L1.out.rule hx
   have hca := CA.out k _ hk2 hx
   dsimp only at hca
   have CAk := Lib.hid hca
   clear hca
   have hzd := hz'.drew
   have z0 := hzd.c0; have z1 := hzd.c1
   have hB := Lib.hid (Nat.le_refl U7.heap.size)
   clear hz' bz hz
   obtain ⟨b, o, hp, k0, k1, k2, k3⟩ := hrule
   subst hp
   clear CA hx rx0 rx1 rx2 rx3 rx4 rx5 rx6 rx7 rx8 rx9
   have hk0 : (0 : Int) ≤ (k : Int) := by omega
   have hkn : (k : Int) < 4 := by omega
   go_wp2_with fail
   refine wp_region_noPanic ?_
   refine wp_region_held_drew (S := fun w' => Below U7.heap.size U7 w') (by kernel_rfl) (hbr.drew) (fun hH0 => ?_)
   refine sch_in [1, 2, 3, 4, 5] ?_
   iterate 5 (refine sch_yes (v := ?_) rfl (by kernel_rfl) (by rfl) ?_ (by assumption) ?_; rotate_left 1; (· (intro w hSw; (try dsimp only at hSw); go_simp <;> (with_reducible rfl))); try simp only [Act.put, qA, qB, qC, qD, qE, qF])
   refine sch_out ?_
   refine wpAnyH_ready (rs := [0]) (by kernel_rfl) (by simp) ?_
   refine AllReadyH.cons rfl (fun K hK => ?_) AllReadyH.nil
   go_simp
   refine hK.out _ _ hH0 (fun hH1 => ?_)
   clear hK hH0
   try simp only [Act.put, qA, qB, qC, qD, qE, qF]
   refine wpAnyH_ready (rs := [6]) (by kernel_rfl) (by simp) ?_
   refine AllReadyH.cons rfl (fun K hK => ?_) AllReadyH.nil
   go_simp
   refine (held (W := U7) hB.out (CAk.out _) hH1).mono ?_
   rintro e w'' ⟨rfl, hb, hw⟩
   have hz2 := hzd.below hb
   clear hzd z0 z1
   have z0 := hz2.c0; have z1 := hz2.c1; have z2 := hz2.f0; have z3 := hz2.f1
   (try go_wp2_with fail)
   refine hK.out _ _ hw (fun hH2 => ?_)
   clear hK hH1 hb
   try simp only [Act.put, qA, qB, qC, qD, qE, qF]
   refine wpAnyH_ready (rs := [7]) (by kernel_rfl) (by simp) ?_
   refine AllReadyH.cons rfl (fun K hK => ?_) AllReadyH.nil
   go_simp
   refine hK.out _ _ (put2 hH2 HBS.out _ _) (fun hH3 => ?_)
   clear hK hH2
   try simp only [Act.put, qA, qB, qC, qD, qE, qF]
   refine wpAnyH_done (by kernel_rfl) ?_ _
   refine NoPanic.normal ?_
   have hZ := Lib.hid (zc_put (x := .string ⟨(S (k + 1)).1.toArray⟩) (y := .string ⟨(S (k + 1)).2.toArray⟩) hz2)
   have b9 := hH3
   clear hz2 hH3 z0 z1 z2 z3 hw hbr CAk
   generalize (w''.setCell ⟨bs, 0, none⟩ (.string ⟨(S (k + 1)).1.toArray⟩)).setCell ⟨bs, 1, none⟩ (.string ⟨(S (k + 1)).2.toArray⟩) = wq at hZ b9 ⊢
   go_wp2_with fail
   go_roundw
   case rel => exact ⟨k + 1, by omega, hlt', by go_num, hZ.out, b9⟩
   case measure => simp [intOf]; omega
  ·obtain rfl : k = 4 := by omega
   have HZ := Lib.hid hz'
   clear hz' CA hz bz hk2 hk
   replace rx0 := fun v (h : Below wr.heap.size wr v) => rx0 v (Below.more hbr h)
   replace rx1 := fun v (h : Below wr.heap.size wr v) => rx1 v (Below.more hbr h)
   replace rx2 := fun v (h : Below wr.heap.size wr v) => rx2 v (Below.more hbr h)
   replace rx3 := fun v (h : Below wr.heap.size wr v) => rx3 v (Below.more hbr h)
   replace rx4 := fun v (h : Below wr.heap.size wr v) => rx4 v (Below.more hbr h)
   replace rx5 := fun v (h : Below wr.heap.size wr v) => rx5 v (Below.more hbr h)
   replace rx6 := fun v (h : Below wr.heap.size wr v) => rx6 v (Below.more hbr h)
   replace rx7 := fun v (h : Below wr.heap.size wr v) => rx7 v (Below.more hbr h)
   replace rx8 := fun v (h : Below wr.heap.size wr v) => rx8 v (Below.more hbr h)
   replace rx9 := fun v (h : Below wr.heap.size wr v) => rx9 v (Below.more hbr h)
   replace Ls := Lib.hid (Ls.out.below hbr)
   replace L1 := Lib.hid (L1.out.below hbr)
   replace L2 := Lib.hid (L2.out.below hbr)
   replace BW := Below.more BW hbr
   replace HT := Lib.hid (HB.out.below HT.out hbr)
   have ra0 := fun v (h : Below wr.heap.size wr v) => (HZ.out.below h).c0
   have ra1 := fun v (h : Below wr.heap.size wr v) => (HZ.out.below h).c1
   clear HZ hbr
   have b40 := Below.refl wr.heap.size wr
   go_wp2_with fail
   refine (CG.out _).mono ?_
   rintro e w41 ⟨rfl, b⟩
   have b41 := Below.more b40 b
   clear b
   go_wp2_with fail
   refine (CP.out _).mono ?_
   rintro e w42 ⟨rfl, b⟩
   have b42 := Below.more b41 b
   clear b
   obtain ⟨b, o, hp, k0, k1, k2, k3⟩ := L1.out.rule hx0
   obtain ⟨b', o', hp', j0, j1, j2, j3⟩ := L1.out.rule hx1
   obtain ⟨rfl, rfl⟩ : b = b' ∧ o = o' := by
    have := Option.some.inj (hp.symm.trans hp')
    exact ⟨congrArg Addr.block this, congrArg Addr.off this⟩
   subst hp
   obtain ⟨d, v, hq, m0, m1, m2, m3⟩ := L2.out.rule hy0
   obtain ⟨d', v', hq', n0, n1, n2, n3⟩ := L2.out.rule hy1
   obtain ⟨rfl, rfl⟩ : d = d' ∧ v = v' := by
    have := Option.some.inj (hq.symm.trans hq')
    exact ⟨congrArg Addr.block this, congrArg Addr.off this⟩
   subst hq
   clear hp' hq' L1 L2 Ls
   simp only [Nat.zero_mul, Nat.add_zero, Nat.one_mul] at k0 k1 k2 k3 j0 j1 j2 j3 m0 m1 m2 m3 n0 n1 n2 n3
   have hB := Lib.hid (Nat.le_refl wr.heap.size)
   go_wp2_with fail
   refine wp_region_noPanic ?_
   refine wp_region_held_drew (S := fun w' => Below wr.heap.size wr w') (by kernel_rfl) (b42.drew) (fun hH0 => ?_)
   refine sch_in [0, 1, 2, 3, 4, 5, 6, 7] ?_
   iterate 8 (refine sch_yes (v := ?_) rfl (by kernel_rfl) (by rfl) ?_ (by assumption) ?_; rotate_left 1; (· (intro w hSw; (try dsimp only at hSw); go_simp <;> (with_reducible rfl))); try simp only [Act.put, qA, qB, qC, qD, qE, qF])
   refine sch_out ?_
   refine wpAnyH_ready (rs := [8]) (by kernel_rfl) (by simp) ?_
   refine AllReadyH.cons rfl (fun K hK => ?_) AllReadyH.nil
   go_simp
   refine (held (W := wr) hB.out (C2.out _) (by assumption)).mono ?_
   rintro e w'' ⟨rfl, hb, hw⟩
   (try go_wp2_with fail)
   refine hK.out _ _ hw (fun hH1 => ?_)
   clear hK hH0 hb
   try simp only [Act.put, qA, qB, qC, qD, qE, qF]
   refine wpAnyH_ready (rs := [9]) (by kernel_rfl) (by simp) ?_
   refine AllReadyH.cons rfl (fun K hK => ?_) AllReadyH.nil
   go_simp
   refine (held (W := wr) hB.out (C0.out _) (by assumption)).mono ?_
   rintro e w'' ⟨rfl, hb, hw⟩
   (try go_wp2_with fail)
   refine hK.out _ _ hw (fun hH2 => ?_)
   clear hK hH1 hb
   try simp only [Act.put, qA, qB, qC, qD, qE, qF]
   refine sch_in [10, 11, 12, 13, 14, 15, 16, 17, 18, 19, 20, 21, 22, 23, 24, 25, 26, 27, 28, 29, 30] ?_
   iterate 21 (refine sch_yes (v := ?_) rfl (by kernel_rfl) (by rfl) ?_ (by assumption) ?_; rotate_left 1; (· (intro w hSw; (try dsimp only at hSw); go_simp <;> (with_reducible rfl))); try simp only [Act.put, qA, qB, qC, qD, qE, qF])
   refine sch_out ?_
   refine wpAnyH_ready (rs := [31]) (by kernel_rfl) (by simp) ?_
   refine AllReadyH.cons rfl (fun K hK => ?_) AllReadyH.nil
   go_simp
   refine (held (W := wr) hB.out (CN.out _) (by assumption)).mono ?_
   rintro e w'' ⟨rfl, hb, hw⟩
   (try go_wp2_with fail)
   refine hK.out _ _ hw (fun hH3 => ?_)
   clear hK hH2 hb
   try simp only [Act.put, qA, qB, qC, qD, qE, qF]
   refine sch_in [32, 33, 34, 35, 36, 37, 38, 39, 40, 41, 42, 43, 44, 45] ?_
   iterate 14 (refine sch_yes (v := ?_) rfl (by kernel_rfl) (by rfl) ?_ (by assumption) ?_; rotate_left 1; (· (intro w hSw; (try dsimp only at hSw); go_simp <;> (with_reducible rfl))); try simp only [Act.put, qA, qB, qC, qD, qE, qF])
   refine sch_out ?_
   refine wpAnyH_done (by kernel_rfl) ?_ _
   refine NoPanic.normal ?_
   have b60 := hw
   clear hw
   go_wp2_with fail
   go_ret
   exact ⟨rfl, Below.more BW b60⟩
end Go.Proofs.YtagfndkfjbbpjaaGreatDoor
/- InstructLines, all ways joined. -/
namespace Go.Proofs.YtagfndkfjbbpjaaGreatDoor
open Go.RowKit
set_option linter.unusedVariables false
variable {G : World → Prop}
theorem zeroQ : isR ([48], [49]) = true ∧ valR ([48], [49]) = 0 ∧ sgnR ([48], [49]) = 0 := by refine ⟨?_, ?_, ?_⟩ <;> decide +kernel
theorem add_zeroL {p : Key} (h : isR p = true) : addR ([48], [49]) p = p := addR_c (by rw [zeroQ.1, h, zeroQ.2.1, decide_eq_true (by rw [Rat.zero_add])]; rfl)
theorem add_negZ {p : Key} (h : isR p = true) : addR (negR p) p = ([48], [49]) := addR_c (by rw [(neg_ok h).1, h, zeroQ.1, (neg_ok h).2, zeroQ.2.1, decide_eq_true (by grind)]; rfl)
theorem neg_lens {p : Key} (h : isR p = true) (h1 : p.1.length ≤ 100) (h2 : p.2.length ≤ 100) : (negR p).1.length ≤ 101 ∧ (negR p).2.length ≤ 100 := by
 have l : Lq (valR p) 100 := Lq.of_text (n := ⟨p.1.toArray⟩) (d := ⟨p.2.toArray⟩) h (by rw [size_of]; exact h1) (by rw [size_of]; exact h2) (by decide)
 have l2 : Lq (-valR p) 100 := ⟨by rw [Rat.neg_num, Int.natAbs_neg]; exact l.num, by rw [Rat.neg_den]; exact l.den, l.le, l.pos⟩
 rw [negR_ok h]
 exact ⟨l2.len1, l2.len2⟩
theorem turn_one {i g u : Int} {f t a : List UInt8} {q p : Key} (h : oneB (In.mk i g u f t a q p) = true) : oneB (In.mk i g u t f a q ([48], [49])) = true := by
 obtain ⟨⟨a1, a2, a3⟩, ⟨n1, n2, n3, ne⟩, r1, s1, _, _⟩ := one_parts h
 dsimp only at a1 a2 a3 n1 n2 n3 ne r1 s1
 unfold oneB oneA oneN
 dsimp only
 rw [n1, n2, n3, zeroQ.1, zeroQ.2.2, decide_eq_true s1, decide_eq_false (show ¬ i < 1 by omega), decide_eq_false (show ¬ g < 0 by omega), decide_eq_false (show ¬ u < g by omega), beq_false_of_ne (fun e => ne e.symm)]
 rfl
set_option maxHeartbeats 1000000 in
theorem ilines_any (H : InsC G) (i g u : Int) (f t a qn qd pn pd : List UInt8) (w : World) (hg : G w) :
  Calls Tryz.prog 6 #[.agg #[.int .i64 i, .int .i64 g, .int .i64 u, .string ⟨f.toArray⟩, .string ⟨t.toArray⟩, .string ⟨a.toArray⟩, .string ⟨qn.toArray⟩, .string ⟨qd.toArray⟩, .string ⟨pn.toArray⟩, .string ⟨pd.toArray⟩]] w (GiveB w true) := by
 have c1 := fun V q (hq : Ins V q [(In.mk i g u f t a (qn, qd) (pn, pd))]) => rismall_any q 1 [(In.mk i g u f t a (qn, qd) (pn, pd))] V (Nat.le_refl _) (show 1 ≤ _ by decide) hq
 cases h1 : smI [(In.mk i g u f t a (qn, qd) (pn, pd))] with
 | false => rw [h1] at c1; exact ilines_a H w hg (Lib.hid c1)
 | true =>
 rw [h1] at c1
 have sh := (smI_iff.1 h1).1 _ (List.mem_cons_self ..)
 have hz := shI_sz sh
 have c2 := fun V => rione_any V hz
 cases h2 : oneB (In.mk i g u f t a (qn, qd) (pn, pd)) with
 | false => rw [h2] at c2; exact ilines_b H w hg (Lib.hid c1) (Lib.hid c2)
 | true =>
 rw [h2] at c2
 obtain ⟨_, _, r1, _, r2, s2⟩ := one_parts h2
 dsimp only at r1 r2 s2
 have hy := turn_one h2
 unfold shI at sh
 simp only [Bool.and_eq_true, decide_eq_true_eq] at sh
 obtain ⟨⟨⟨q1, q2⟩, p1, p2⟩, t1, t2, t3⟩ := sh
 have zy : SzI (In.mk i g u t f a (qn, qd) ([48], [49])) := ⟨⟨hz.1.2.1, hz.1.1, hz.1.2.2⟩, hz.2.1, by show 1 ≤ _; decide, by show 1 ≤ _; decide⟩
 have cl := fun V (hgv : G V) => H.lines (In.mk i g u f t a (qn, qd) (pn, pd)) V hz hgv
 have cy := fun V (hgv : G V) => H.lines (In.mk i g u t f a (qn, qd) ([48], [49])) V zy hgv
 have ey : linesI (In.mk i g u t f a (qn, qd) ([48], [49])) = [((t, a), negR (qn, qd)), ((f, a), (qn, qd))] := lines_c hy rfl (pay_no (show ¬ 0 < sgnR ([48], [49]) by rw [zeroQ.2.2]; decide))
 rw [ey] at cy
 have c0 : ∀ V, Calls Tryz.prog 28 #[.int .i64 0] V (GiveR V ([48], [49])) := fun V => by have k := rqof_any 0 V (by decide) (by decide); rw [wd_0] at k; exact k
 have nq := neg_lens r1 q1 q2
 have np := neg_lens r2 p1 p2
 have ca : ∀ (x y : Key), x.1.length ≤ 101 → x.2.length ≤ 101 → y.1.length ≤ 101 → y.2.length ≤ 101 → ∀ V, Calls Tryz.prog 29 #[.agg #[.string ⟨x.1.toArray⟩, .string ⟨x.2.toArray⟩], .agg #[.string ⟨y.1.toArray⟩, .string ⟨y.2.toArray⟩]] V (GiveR V (addR x y)) := fun x y a1 a2 a3 a4 V =>
  rqadd_any ⟨x.1.toArray⟩ ⟨x.2.toArray⟩ ⟨y.1.toArray⟩ ⟨y.2.toArray⟩ V (by rw [size_of]; omega) (by rw [size_of]; omega) (by rw [size_of]; omega) (by rw [size_of]; omega)
 have cg : ∀ V, Calls Tryz.prog 24 #[.agg #[.string ⟨[48].toArray⟩, .string ⟨[49].toArray⟩]] V (GiveI V 0) := fun V => by
  have k := rqsign_any ⟨#[48]⟩ ⟨#[49]⟩ V (by decide) (by decide)
  rw [show sgnR ((⟨#[48]⟩ : ByteArray).data.toList, (⟨#[49]⟩ : ByteArray).data.toList) = 0 from zeroQ.2.2] at k
  exact k
 have cp := fun V => rqsign_any ⟨pn.toArray⟩ ⟨pd.toArray⟩ V (by rw [size_of]; omega) (by rw [size_of]; omega)
 have cn := fun V => rqneg_any ⟨qn.toArray⟩ ⟨qd.toArray⟩ V (by rw [size_of]; omega) (by rw [size_of]; omega)
 have c3 := ca (negR (qn, qd)) (qn, qd) nq.1 (by omega) (by dsimp only; omega) (by dsimp only; omega)
 rw [add_negZ r1] at c3
 by_cases hp : 0 < sgnR (pn, pd)
 ·have ex : linesI (In.mk i g u f t a (qn, qd) (pn, pd)) = [((f, a), negR (qn, qd)), ((t, a), (qn, qd)), ((t, cashT), negR (pn, pd)), ((f, cashT), (pn, pd))] := lines_c h2 rfl (pay_yes hp rfl)
  rw [ex] at cl
  refine ilines_4 H w hg [((f, a), negR (qn, qd)), ((t, a), (qn, qd)), ((t, cashT), negR (pn, pd)), ((f, cashT), (pn, pd))] [((t, a), negR (qn, qd)), ((f, a), (qn, qd))] (fun k => if k = 3 then negR (pn, pd) else ([48], [49])) rfl rfl rfl rfl rfl rfl _ hp (Lib.hid c1) (Lib.hid c2) (Lib.hid cl) (Lib.hid cy) (Lib.hid c0) (Lib.hid fun k x hk hx V => ?_) (Lib.hid cg) (Lib.hid cp) (Lib.hid c3) (Lib.hid cn)
  match k, hk, hx with
  | 2, _, hx =>
   obtain rfl := Option.some.inj hx
   have k := ca ([48], [49]) (negR (pn, pd)) (by decide) (by decide) np.1 (by omega) V
   rw [add_zeroL (neg_ok r2).1] at k
   exact k
  | 3, _, hx =>
   obtain rfl := Option.some.inj hx
   have k := ca (negR (pn, pd)) (pn, pd) np.1 (by omega) (by dsimp only; omega) (by dsimp only; omega) V
   rw [add_negZ r2] at k
   exact k
  | k + 4, _, hx => cases hx
 ·have ex : linesI (In.mk i g u f t a (qn, qd) (pn, pd)) = [((f, a), negR (qn, qd)), ((t, a), (qn, qd))] := lines_c h2 rfl (pay_no hp)
  rw [ex] at cl
  have e0 : sgnR (pn, pd) = 0 := by omega
  have cp' : ∀ V, Calls Tryz.prog 24 #[.agg #[.string ⟨pn.toArray⟩, .string ⟨pd.toArray⟩]] V (GiveI V 0) := fun V => by have k := cp V; rw [show sgnR ((⟨pn.toArray⟩ : ByteArray).data.toList, (⟨pd.toArray⟩ : ByteArray).data.toList) = 0 from e0] at k; exact k
  refine ilines_2 H w hg [((f, a), negR (qn, qd)), ((t, a), (qn, qd))] [((t, a), negR (qn, qd)), ((f, a), (qn, qd))] (fun _ => ([48], [49])) rfl rfl rfl rfl rfl rfl (Lib.hid c1) (Lib.hid c2) (Lib.hid cl) (Lib.hid cy) (Lib.hid c0) (Lib.hid fun k x hk hx V => ?_) (Lib.hid cg) (Lib.hid cp') (Lib.hid c3) (Lib.hid cn)
  match k, hk, hx with
  | k + 2, _, hx => cases hx
end Go.Proofs.YtagfndkfjbbpjaaGreatDoor
