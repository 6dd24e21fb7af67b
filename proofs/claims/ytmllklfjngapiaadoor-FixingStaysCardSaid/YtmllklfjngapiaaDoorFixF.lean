/- What the laws of layer 12 lean on: rows that are laid; the fixed calls. -/
import Derived.Test.YtmllklfjngapiaaDoorAllFx3
import Derived.Test.YtmllklfjngapiaaDoorAllRefF3
import Derived.Test.YtmllklfjngapiaaDoorAllRefQ5
namespace Go.Proofs.YtmllklfjngapiaaDoor
open Go.RowKit
set_option linter.unusedSimpArgs false
set_option linter.unusedVariables false
theorem rowsLit {α : Type} {enc : α → List Value} {k : Nat} (hk : ∀ x, (enc x).length = k) (w : World) (l : List α) (c : Array Value) (t : TypeId) (hc : c.toList = l.flatMap enc) : RowsG enc k (w.alloc (.cells c t)) (some ⟨w.heap.size, 0, none⟩) l := fun j x hx =>
  ⟨_, _, rfl, by simp, fun i v hv => by
    rw [Nat.zero_add]
    exact (cell_new w _ _ _ rfl (j * k + i)).trans (by rw [← Array.getElem?_toList, hc]; exact flat_get hk hx hv)⟩
/-- A table, and whether that may be, are answered. -/
def GiveT2 (w : World) (R : List Fx.Fix) (z : Bool) (e : Ending) (w' : World) : Prop := (∃ p c, e = .returned (.tuple #[.slice p R.length c, .bool z]) ∧ R.length ≤ c ∧ Fxs w' p R) ∧ Below w.heap.size w w'
def szXb (x : Fx.Fix) : Bool := decide (x.1.1.length ≤ 1000) && (decide (x.2.1.length ≤ 1000) && decide (x.2.2.length ≤ 1000))
theorem szX_c {l : List Fx.Fix} (h : l.all szXb = true) : ∀ x ∈ l, SzX x := fun x hx => by
  have k := List.all_eq_true.1 h x hx
  unfold szXb at k
  simp only [Bool.and_eq_true, decide_eq_true_eq] at k
  exact ⟨by omega, by omega, by omega⟩
theorem szX_1 {x : Fx.Fix} (h : szXb x = true) : SzX x := szX_c (l := [x]) (by rw [List.all_cons, h]; rfl) x (List.mem_singleton.2 rfl)
def tb1 : List Fx.Fix := [(([120], 3), ([55], [49]))]
def tb2 : List Fx.Fix := [(([120], 1), ([45, 53], [49])), (([120], 3), ([55], [49]))]
theorem kt_of (n : Int) (s : List UInt8) (hs : wd n = s) (h0 : -9223372036854775808 ≤ n) (h1 : n ≤ 9223372036854775807) (w : World) : Calls Tryd.prog 19 #[.int .i64 n] w (GiveR w (s, [49])) := by
  have h := rqof_any n w h0 h1
  rw [hs] at h
  exact h
theorem kf1 (V : World) : Calls Tryd.prog 9 #[.slice none 0 0, .agg #[.string ⟨#[120]⟩, .int .i64 3, .string ⟨#[55]⟩, .string ⟨#[49]⟩]] V (fun r w' => (∃ p c, r = .returned (.tuple #[.slice p 1 c, .bool true]) ∧ 1 ≤ c ∧ Fxs w' p tb1) ∧ Below V.heap.size V w') := by
  have k := ffset_any none 0 [] [120] 3 [55] [49] V (Nat.le_refl _) (by decide) (szX_c (by decide)) (szX_1 (by decide)) (RowsG.nil _ _)
  rw [show Fx.setF [] (([120], 3), ([55], [49])) = some tb1 by decide +kernel] at k
  exact k
theorem kf2 (p : Option Addr) (c : Nat) (hc : 1 ≤ c) (V : World) (h : Fxs V p tb1) : Calls Tryd.prog 9 #[.slice p 1 c, .agg #[.string ⟨#[120]⟩, .int .i64 3, .string ⟨#[56]⟩, .string ⟨#[49]⟩]] V (fun r w' => (∃ p c, r = .returned (.tuple #[.slice p 0 c, .bool false]) ∧ 0 ≤ c ∧ Fxs w' p []) ∧ Below V.heap.size V w') := by
  have k := ffset_any p c tb1 [120] 3 [56] [49] V (hc) (by decide) (szX_c (by decide)) (szX_1 (by decide)) (h)
  rw [show Fx.setF tb1 (([120], 3), ([56], [49])) = none by decide +kernel] at k
  exact k
theorem kf3 (p : Option Addr) (c : Nat) (hc : 1 ≤ c) (V : World) (h : Fxs V p tb1) : Calls Tryd.prog 9 #[.slice p 1 c, .agg #[.string ⟨#[120]⟩, .int .i64 1, .string ⟨#[45, 53]⟩, .string ⟨#[49]⟩]] V (fun r w' => (∃ p c, r = .returned (.tuple #[.slice p 2 c, .bool true]) ∧ 2 ≤ c ∧ Fxs w' p tb2) ∧ Below V.heap.size V w') := by
  have k := ffset_any p c tb1 [120] 1 [45, 53] [49] V (hc) (by decide) (szX_c (by decide)) (szX_1 (by decide)) (h)
  rw [show Fx.setF tb1 (([120], 1), ([45, 53], [49])) = some tb2 by decide +kernel] at k
  exact k
theorem kg1 (p : Option Addr) (c : Nat) (hc : 2 ≤ c) (V : World) (h : Fxs V p tb2) : Calls Tryd.prog 11 #[.slice p 2 c, .string ⟨#[120]⟩, .int .i64 3] V (fun r w' => r = .returned (.tuple #[.agg #[.string ⟨#[55]⟩, .string ⟨#[49]⟩], .bool true]) ∧ Below V.heap.size V w') := by
  have k := ffget_any p c tb2 [120] 3 V hc (by decide) (szX_c (by decide)) h
  rw [show Fx.getF tb2 ([120], 3) = some ([55], [49]) by decide +kernel] at k
  exact k
theorem kl1 (p : Option Addr) (c : Nat) (hc : 2 ≤ c) (V : World) (h : Fxs V p tb2) : Calls Tryd.prog 13 #[.slice p 2 c, .string ⟨#[120]⟩, .int .i64 2] V (fun r w' => r = .returned (.tuple #[.agg #[.string ⟨#[45, 53]⟩, .string ⟨#[49]⟩], .bool true]) ∧ Below V.heap.size V w') := by
  have k := fflast_any p c tb2 [120] 2 V hc (by decide) (szX_c (by decide)) h
  rw [show Fx.lastF tb2 ([120], 2) = some ([45, 53], [49]) by decide +kernel] at k
  exact k
theorem kg2 (p : Option Addr) (c : Nat) (hc : 2 ≤ c) (V : World) (h : Fxs V p tb2) : Calls Tryd.prog 11 #[.slice p 2 c, .string ⟨#[120]⟩, .int .i64 2] V (fun r w' => r = .returned (.tuple #[.agg #[.string ⟨#[]⟩, .string ⟨#[]⟩], .bool false]) ∧ Below V.heap.size V w') := by
  have k := ffget_any p c tb2 [120] 2 V hc (by decide) (szX_c (by decide)) h
  rw [show Fx.getF tb2 ([120], 2) = none by decide +kernel] at k
  exact k
theorem kl2 (p : Option Addr) (c : Nat) (hc : 2 ≤ c) (V : World) (h : Fxs V p tb2) : Calls Tryd.prog 13 #[.slice p 2 c, .string ⟨#[120]⟩, .int .i64 0] V (fun r w' => r = .returned (.tuple #[.agg #[.string ⟨#[]⟩, .string ⟨#[]⟩], .bool false]) ∧ Below V.heap.size V w') := by
  have k := fflast_any p c tb2 [120] 0 V hc (by decide) (szX_c (by decide)) h
  rw [show Fx.lastF tb2 ([120], 0) = none by decide +kernel] at k
  exact k
theorem km1 (p : Option Addr) (c : Nat) (hc : 2 ≤ c) (V : World) (h : Fxs V p tb2) : Calls Tryd.prog 16 #[.slice p 2 c] V (GiveB V true) := by
  have k := ffmay_any p c tb2 V hc (by decide) (szX_c (by decide)) h
  rw [show Fx.mayF tb2 = true by decide +kernel] at k
  exact k
theorem km2 (p : Option Addr) (V : World) (h : Fxs V p [(([], 0), ([], []))]) : Calls Tryd.prog 16 #[.slice p 1 1] V (GiveB V false) := by
  have k := ffmay_any p 1 [(([], 0), ([], []))] V (Nat.le_refl _) (by decide) (szX_c (by decide)) h
  rw [show Fx.mayF [(([], 0), ([], []))] = false by decide +kernel] at k
  exact k
set_option maxRecDepth 100000 in
set_option maxHeartbeats 4000000 in
theorem fixed12_any (w : World) : Calls Tryd.prog 8 #[] w (GiveB w true) := by
  have HT : Hid (NoB w) := Lib.hid (noB w)
  go_enter Tryd.func8, Tryd.ntmps8
  go_wp2_with fail
  have BW := Below.refl w.heap.size w
  have b0 : Below w.heap.size w w := Below.refl _ _
  refine (kt_of 7 [55] (by decide +kernel) (by decide) (by decide) _).mono ?_
  rintro e w1 ⟨rfl, b⟩
  have b1 := Below.more b0 b
  clear b
  go_wp2_with fail
  refine (kf1 _).mono ?_
  rintro e0 U2 ⟨⟨pl, cl, rfl, hcl, hll⟩, b⟩
  have bU := Below.more b1 b
  clear b
  replace BW := Below.more BW bU
  replace HT := Lib.hid (HT.out.below bU)
  have Ll := Lib.hid hll
  clear hll bU
  have b2 := Below.refl U2.heap.size U2
  go_wp2_with fail
  refine (kt_of 8 [56] (by decide +kernel) (by decide) (by decide) _).mono ?_
  rintro e w3 ⟨rfl, b⟩
  have b3 := Below.more b2 b
  clear b
  go_wp2_with fail
  refine (kf2 _ _ hcl _ (Ll.out.below b3)).mono ?_
  rintro e0 U4 ⟨⟨pn, cn, rfl, hcn, hln⟩, b⟩
  have bU := Below.more b3 b
  clear b
  replace Ll := Lib.hid (Ll.out.below bU)
  replace BW := Below.more BW bU
  replace HT := Lib.hid (HT.out.below bU)
  have Ln := Lib.hid hln
  clear hln bU
  have b4 := Below.refl U4.heap.size U4
  go_wp2_with fail
  refine (kt_of (-5) [45, 53] (by decide +kernel) (by decide) (by decide) _).mono ?_
  rintro e w5 ⟨rfl, b⟩
  have b5 := Below.more b4 b
  clear b
  go_wp2_with fail
  refine (kf3 _ _ hcl _ (Ll.out.below b5)).mono ?_
  rintro e0 U6 ⟨⟨pm, cm, rfl, hcm, hlm⟩, b⟩
  have bU := Below.more b5 b
  clear b
  replace Ll := Lib.hid (Ll.out.below bU)
  replace Ln := Lib.hid (Ln.out.below bU)
  replace BW := Below.more BW bU
  replace HT := Lib.hid (HT.out.below bU)
  have Lm := Lib.hid hlm
  clear hlm bU
  have b6 := Below.refl U6.heap.size U6
  go_wp2_with fail
  refine (kg1 _ _ hcm _ (Lm.out.below b6)).mono ?_
  rintro e w7 ⟨rfl, b⟩
  have b7 := Below.more b6 b
  clear b
  have ba := fun x => Below.alloc b7 (Below.size b7) x
  go_wp2_with fail
  obtain ⟨U8, hU, bU, s8, rp0, rp1⟩ := lay b7 (.string ⟨#[55]⟩) (.string ⟨#[49]⟩) 24
  rw [hU]; clear hU
  clear s8
  replace Ll := Lib.hid (Ll.out.below bU)
  replace Ln := Lib.hid (Ln.out.below bU)
  replace Lm := Lib.hid (Lm.out.below bU)
  replace BW := Below.more BW bU
  replace HT := Lib.hid (HT.out.below bU)
  clear bU
  have b8 := Below.refl U8.heap.size U8
  clear ba
  go_wp2_with fail
  refine (kl1 _ _ hcm _ (Lm.out.below b8)).mono ?_
  rintro e w9 ⟨rfl, b⟩
  have b9 := Below.more b8 b
  clear b
  have ba := fun x => Below.alloc b9 (Below.size b9) x
  go_wp2_with fail
  obtain ⟨U10, hU, bU, s10, rq0, rq1⟩ := lay b9 (.string ⟨#[45, 53]⟩) (.string ⟨#[49]⟩) 24
  rw [hU]; clear hU
  clear s10
  replace rp0 := fun v (h : Below U10.heap.size U10 v) => rp0 v (Below.more bU h)
  replace rp1 := fun v (h : Below U10.heap.size U10 v) => rp1 v (Below.more bU h)
  replace Ll := Lib.hid (Ll.out.below bU)
  replace Ln := Lib.hid (Ln.out.below bU)
  replace Lm := Lib.hid (Lm.out.below bU)
  replace BW := Below.more BW bU
  replace HT := Lib.hid (HT.out.below bU)
  clear bU
  have b10 := Below.refl U10.heap.size U10
  clear ba
  go_wp2_with fail
  refine (kg2 _ _ hcm _ (Lm.out.below b10)).mono ?_
  rintro e w11 ⟨rfl, b⟩
  have b11 := Below.more b10 b
  clear b
  have ba := fun x => Below.alloc b11 (Below.size b11) x
  go_wp2_with fail
  obtain ⟨U12, hU, bU, s12, rx0, rx1⟩ := lay b11 (.string ⟨#[]⟩) (.string ⟨#[]⟩) 24
  rw [hU]; clear hU
  clear s12
  replace rp0 := fun v (h : Below U12.heap.size U12 v) => rp0 v (Below.more bU h)
  replace rp1 := fun v (h : Below U12.heap.size U12 v) => rp1 v (Below.more bU h)
  replace rq0 := fun v (h : Below U12.heap.size U12 v) => rq0 v (Below.more bU h)
  replace rq1 := fun v (h : Below U12.heap.size U12 v) => rq1 v (Below.more bU h)
  replace Ll := Lib.hid (Ll.out.below bU)
  replace Ln := Lib.hid (Ln.out.below bU)
  replace Lm := Lib.hid (Lm.out.below bU)
  replace BW := Below.more BW bU
  replace HT := Lib.hid (HT.out.below bU)
  clear bU
  have b12 := Below.refl U12.heap.size U12
  clear ba
  go_wp2_with fail
  refine (kl2 _ _ hcm _ (Lm.out.below b12)).mono ?_
  rintro e w13 ⟨rfl, b⟩
  have b13 := Below.more b12 b
  clear b
  have ba := fun x => Below.alloc b13 (Below.size b13) x
  go_wp2_with fail
  obtain ⟨U14, hU, bU, s14, ry0, ry1⟩ := lay b13 (.string ⟨#[]⟩) (.string ⟨#[]⟩) 24
  rw [hU]; clear hU
  clear s14
  replace rp0 := fun v (h : Below U14.heap.size U14 v) => rp0 v (Below.more bU h)
  replace rp1 := fun v (h : Below U14.heap.size U14 v) => rp1 v (Below.more bU h)
  replace rq0 := fun v (h : Below U14.heap.size U14 v) => rq0 v (Below.more bU h)
  replace rq1 := fun v (h : Below U14.heap.size U14 v) => rq1 v (Below.more bU h)
  replace rx0 := fun v (h : Below U14.heap.size U14 v) => rx0 v (Below.more bU h)
  replace rx1 := fun v (h : Below U14.heap.size U14 v) => rx1 v (Below.more bU h)
  replace Ll := Lib.hid (Ll.out.below bU)
  replace Ln := Lib.hid (Ln.out.below bU)
  replace Lm := Lib.hid (Lm.out.below bU)
  replace BW := Below.more BW bU
  replace HT := Lib.hid (HT.out.below bU)
  clear bU
  have b14 := Below.refl U14.heap.size U14
  clear ba
  have hB := Lib.hid (Nat.le_refl U14.heap.size)
  have CM := Lib.hid (fun V (h : Below U14.heap.size U14 V) => Lm.out.below h)
  go_wp2_with fail
  refine wp_region_noPanic ?_
  refine wp_region_held_drew (S := fun w' => Below U14.heap.size U14 w') (by kernel_rfl) (b14.drew) (fun hH0 => ?_)
  refine wpAnyH_take (i := 0) (v := ?_) rfl (by kernel_rfl) (by kernel_rfl) (by kernel_rfl) (fun _ _ _ h => h) (Or.inl ⟨by rfl, ?_⟩) (by assumption) ?_
  rotate_left 1
  · (intro w hSw; (try dsimp only at hSw); go_simp <;> (with_reducible rfl))
  try simp only [Act.put, List.getElem_toArray, List.getElem_cons_succ, List.getElem_cons_zero, List.setIfInBounds_toArray, List.set_cons_zero, List.set_cons_succ]
  refine wpAnyH_take (i := 1) (v := ?_) rfl (by kernel_rfl) (by kernel_rfl) (by kernel_rfl) (fun _ _ _ h => h) (Or.inl ⟨by rfl, ?_⟩) (by assumption) ?_
  rotate_left 1
  · (intro w hSw; (try dsimp only at hSw); go_simp <;> (with_reducible rfl))
  try simp only [Act.put, List.getElem_toArray, List.getElem_cons_succ, List.getElem_cons_zero, List.setIfInBounds_toArray, List.set_cons_zero, List.set_cons_succ]
  refine wpAnyH_take (i := 2) (v := ?_) rfl (by kernel_rfl) (by kernel_rfl) (by kernel_rfl) (fun _ _ _ h => h) (Or.inl ⟨by rfl, ?_⟩) (by assumption) ?_
  rotate_left 1
  · (intro w hSw; (try dsimp only at hSw); go_simp <;> (with_reducible rfl))
  try simp only [Act.put, List.getElem_toArray, List.getElem_cons_succ, List.getElem_cons_zero, List.setIfInBounds_toArray, List.set_cons_zero, List.set_cons_succ]
  refine wpAnyH_take (i := 3) (v := ?_) rfl (by kernel_rfl) (by kernel_rfl) (by kernel_rfl) (fun _ _ _ h => h) (Or.inl ⟨by rfl, ?_⟩) (by assumption) ?_
  rotate_left 1
  · (intro w hSw; (try dsimp only at hSw); go_simp <;> (with_reducible rfl))
  try simp only [Act.put, List.getElem_toArray, List.getElem_cons_succ, List.getElem_cons_zero, List.setIfInBounds_toArray, List.set_cons_zero, List.set_cons_succ]
  refine wpAnyH_take (i := 4) (v := ?_) rfl (by kernel_rfl) (by kernel_rfl) (by kernel_rfl) (fun _ _ _ h => h) (Or.inl ⟨by rfl, ?_⟩) (by assumption) ?_
  rotate_left 1
  · (intro w hSw; (try dsimp only at hSw); go_simp <;> (with_reducible rfl))
  try simp only [Act.put, List.getElem_toArray, List.getElem_cons_succ, List.getElem_cons_zero, List.setIfInBounds_toArray, List.set_cons_zero, List.set_cons_succ]
  refine wpAnyH_take (i := 5) (v := ?_) rfl (by kernel_rfl) (by kernel_rfl) (by kernel_rfl) (fun _ _ _ h => h) (Or.inl ⟨by rfl, ?_⟩) (by assumption) ?_
  rotate_left 1
  · (intro w hSw; (try dsimp only at hSw); go_simp <;> (with_reducible rfl))
  try simp only [Act.put, List.getElem_toArray, List.getElem_cons_succ, List.getElem_cons_zero, List.setIfInBounds_toArray, List.set_cons_zero, List.set_cons_succ]
  refine wpAnyH_take (i := 6) (v := ?_) rfl (by kernel_rfl) (by kernel_rfl) (by kernel_rfl) (fun _ _ _ h => h) (Or.inl ⟨by rfl, ?_⟩) (by assumption) ?_
  rotate_left 1
  · (intro w hSw; (try dsimp only at hSw); go_simp <;> (with_reducible rfl))
  try simp only [Act.put, List.getElem_toArray, List.getElem_cons_succ, List.getElem_cons_zero, List.setIfInBounds_toArray, List.set_cons_zero, List.set_cons_succ]
  refine wpAnyH_take (i := 7) (v := ?_) rfl (by kernel_rfl) (by kernel_rfl) (by kernel_rfl) (fun _ _ _ h => h) (Or.inl ⟨by rfl, ?_⟩) (by assumption) ?_
  rotate_left 1
  · (intro w hSw; (try dsimp only at hSw); go_simp <;> (with_reducible rfl))
  try simp only [Act.put, List.getElem_toArray, List.getElem_cons_succ, List.getElem_cons_zero, List.setIfInBounds_toArray, List.set_cons_zero, List.set_cons_succ]
  refine wpAnyH_take (i := 8) (v := ?_) rfl (by kernel_rfl) (by kernel_rfl) (by kernel_rfl) (fun _ _ _ h => h) (Or.inl ⟨by rfl, ?_⟩) (by assumption) ?_
  rotate_left 1
  · (intro w hSw; (try dsimp only at hSw); go_simp <;> (with_reducible rfl))
  try simp only [Act.put, List.getElem_toArray, List.getElem_cons_succ, List.getElem_cons_zero, List.setIfInBounds_toArray, List.set_cons_zero, List.set_cons_succ]
  refine wpAnyH_take (i := 9) (v := ?_) rfl (by kernel_rfl) (by kernel_rfl) (by kernel_rfl) (fun _ _ _ h => h) (Or.inl ⟨by rfl, ?_⟩) (by assumption) ?_
  rotate_left 1
  · (intro w hSw; (try dsimp only at hSw); go_simp <;> (with_reducible rfl))
  try simp only [Act.put, List.getElem_toArray, List.getElem_cons_succ, List.getElem_cons_zero, List.setIfInBounds_toArray, List.set_cons_zero, List.set_cons_succ]
  refine wpAnyH_take (i := 10) (v := ?_) rfl (by kernel_rfl) (by kernel_rfl) (by kernel_rfl) (fun _ _ _ h => h) (Or.inl ⟨by rfl, ?_⟩) (by assumption) ?_
  rotate_left 1
  · (intro w hSw; (try dsimp only at hSw); go_simp <;> (with_reducible rfl))
  try simp only [Act.put, List.getElem_toArray, List.getElem_cons_succ, List.getElem_cons_zero, List.setIfInBounds_toArray, List.set_cons_zero, List.set_cons_succ]
  refine wpAnyH_take (i := 11) (v := ?_) rfl (by kernel_rfl) (by kernel_rfl) (by kernel_rfl) (fun _ _ _ h => h) (Or.inl ⟨by rfl, ?_⟩) (by assumption) ?_
  rotate_left 1
  · (intro w hSw; (try dsimp only at hSw); go_simp <;> (with_reducible rfl))
  try simp only [Act.put, List.getElem_toArray, List.getElem_cons_succ, List.getElem_cons_zero, List.setIfInBounds_toArray, List.set_cons_zero, List.set_cons_succ]
  refine wpAnyH_take (i := 12) (v := ?_) rfl (by kernel_rfl) (by kernel_rfl) (by kernel_rfl) (fun _ _ _ h => h) (Or.inl ⟨by rfl, ?_⟩) (by assumption) ?_
  rotate_left 1
  · (intro w hSw; (try dsimp only at hSw); go_simp <;> (with_reducible rfl))
  try simp only [Act.put, List.getElem_toArray, List.getElem_cons_succ, List.getElem_cons_zero, List.setIfInBounds_toArray, List.set_cons_zero, List.set_cons_succ]
  refine wpAnyH_take (i := 13) (v := ?_) rfl (by kernel_rfl) (by kernel_rfl) (by kernel_rfl) (fun _ _ _ h => h) (Or.inl ⟨by rfl, ?_⟩) (by assumption) ?_
  rotate_left 1
  · (intro w hSw; (try dsimp only at hSw); go_simp <;> (with_reducible rfl))
  try simp only [Act.put, List.getElem_toArray, List.getElem_cons_succ, List.getElem_cons_zero, List.setIfInBounds_toArray, List.set_cons_zero, List.set_cons_succ]
  refine wpAnyH_take (i := 14) (v := ?_) rfl (by kernel_rfl) (by kernel_rfl) (by kernel_rfl) (fun _ _ _ h => h) (Or.inl ⟨by rfl, ?_⟩) (by assumption) ?_
  rotate_left 1
  · (intro w hSw; (try dsimp only at hSw); go_simp <;> (with_reducible rfl))
  try simp only [Act.put, List.getElem_toArray, List.getElem_cons_succ, List.getElem_cons_zero, List.setIfInBounds_toArray, List.set_cons_zero, List.set_cons_succ]
  refine wpAnyH_ready (rs := [15]) (by kernel_rfl) (by simp) ?_
  refine AllReadyH.cons rfl (fun K hK => ?_) AllReadyH.nil
  go_simp
  refine (held (W := U14) hB.out (kt_of 7 [55] (by decide +kernel) (by decide) (by decide) _) (by assumption)).mono ?_
  rintro e x1 ⟨rfl, hb, hw⟩
  (try go_wp2_with fail)
  refine hK.out _ _ hw (fun hH1 => ?_)
  clear hK hH0 hb hw
  try simp only [Act.put, List.getElem_toArray, List.getElem_cons_succ, List.getElem_cons_zero, List.setIfInBounds_toArray, List.set_cons_zero, List.set_cons_succ]
  refine wpAnyH_take (i := 16) (v := ?_) rfl (by kernel_rfl) (by kernel_rfl) (by kernel_rfl) (fun _ _ _ h => h) (Or.inl ⟨by rfl, ?_⟩) (by assumption) ?_
  rotate_left 1
  · (intro w hSw; (try dsimp only at hSw); go_simp <;> (with_reducible rfl))
  try simp only [Act.put, List.getElem_toArray, List.getElem_cons_succ, List.getElem_cons_zero, List.setIfInBounds_toArray, List.set_cons_zero, List.set_cons_succ]
  refine wpAnyH_take (i := 17) (v := ?_) rfl (by kernel_rfl) (by kernel_rfl) (by kernel_rfl) (fun _ _ _ h => h) (Or.inl ⟨by rfl, ?_⟩) (by assumption) ?_
  rotate_left 1
  · (intro w hSw; (try dsimp only at hSw); go_simp <;> (with_reducible rfl))
  try simp only [Act.put, List.getElem_toArray, List.getElem_cons_succ, List.getElem_cons_zero, List.setIfInBounds_toArray, List.set_cons_zero, List.set_cons_succ]
  refine wpAnyH_take (i := 18) (v := ?_) rfl (by kernel_rfl) (by kernel_rfl) (by kernel_rfl) (fun _ _ _ h => h) (Or.inl ⟨by rfl, ?_⟩) (by assumption) ?_
  rotate_left 1
  · (intro w hSw; (try dsimp only at hSw); go_simp <;> (with_reducible rfl))
  try simp only [Act.put, List.getElem_toArray, List.getElem_cons_succ, List.getElem_cons_zero, List.setIfInBounds_toArray, List.set_cons_zero, List.set_cons_succ]
  refine wpAnyH_take (i := 19) (v := ?_) rfl (by kernel_rfl) (by kernel_rfl) (by kernel_rfl) (fun _ _ _ h => h) (Or.inl ⟨by rfl, ?_⟩) (by assumption) ?_
  rotate_left 1
  · (intro w hSw; (try dsimp only at hSw); go_simp <;> (with_reducible rfl))
  try simp only [Act.put, List.getElem_toArray, List.getElem_cons_succ, List.getElem_cons_zero, List.setIfInBounds_toArray, List.set_cons_zero, List.set_cons_succ]
  refine wpAnyH_take (i := 20) (v := ?_) rfl (by kernel_rfl) (by kernel_rfl) (by kernel_rfl) (fun _ _ _ h => h) (Or.inl ⟨by rfl, ?_⟩) (by assumption) ?_
  rotate_left 1
  · (intro w hSw; (try dsimp only at hSw); go_simp <;> (with_reducible rfl))
  try simp only [Act.put, List.getElem_toArray, List.getElem_cons_succ, List.getElem_cons_zero, List.setIfInBounds_toArray, List.set_cons_zero, List.set_cons_succ]
  refine wpAnyH_take (i := 21) (v := ?_) rfl (by kernel_rfl) (by kernel_rfl) (by kernel_rfl) (fun _ _ _ h => h) (Or.inl ⟨by rfl, ?_⟩) (by assumption) ?_
  rotate_left 1
  · (intro w hSw; (try dsimp only at hSw); go_simp <;> (with_reducible rfl))
  try simp only [Act.put, List.getElem_toArray, List.getElem_cons_succ, List.getElem_cons_zero, List.setIfInBounds_toArray, List.set_cons_zero, List.set_cons_succ]
  refine wpAnyH_take (i := 22) (v := ?_) rfl (by kernel_rfl) (by kernel_rfl) (by kernel_rfl) (fun _ _ _ h => h) (Or.inl ⟨by rfl, ?_⟩) (by assumption) ?_
  rotate_left 1
  · (intro w hSw; (try dsimp only at hSw); go_simp <;> (with_reducible rfl))
  try simp only [Act.put, List.getElem_toArray, List.getElem_cons_succ, List.getElem_cons_zero, List.setIfInBounds_toArray, List.set_cons_zero, List.set_cons_succ]
  refine wpAnyH_ready (rs := [23]) (by kernel_rfl) (by simp) ?_
  refine AllReadyH.cons rfl (fun K hK => ?_) AllReadyH.nil
  go_simp
  refine (held (W := U14) hB.out (kt_of (-5) [45, 53] (by decide +kernel) (by decide) (by decide) _) (by assumption)).mono ?_
  rintro e x2 ⟨rfl, hb, hw⟩
  (try go_wp2_with fail)
  refine hK.out _ _ hw (fun hH2 => ?_)
  clear hK hH1 hb hw
  try simp only [Act.put, List.getElem_toArray, List.getElem_cons_succ, List.getElem_cons_zero, List.setIfInBounds_toArray, List.set_cons_zero, List.set_cons_succ]
  refine wpAnyH_take (i := 24) (v := ?_) rfl (by kernel_rfl) (by kernel_rfl) (by kernel_rfl) (fun _ _ _ h => h) (Or.inl ⟨by rfl, ?_⟩) (by assumption) ?_
  rotate_left 1
  · (intro w hSw; (try dsimp only at hSw); go_simp <;> (with_reducible rfl))
  try simp only [Act.put, List.getElem_toArray, List.getElem_cons_succ, List.getElem_cons_zero, List.setIfInBounds_toArray, List.set_cons_zero, List.set_cons_succ]
  refine wpAnyH_take (i := 25) (v := ?_) rfl (by kernel_rfl) (by kernel_rfl) (by kernel_rfl) (fun _ _ _ h => h) (Or.inl ⟨by rfl, ?_⟩) (by assumption) ?_
  rotate_left 1
  · (intro w hSw; (try dsimp only at hSw); go_simp <;> (with_reducible rfl))
  try simp only [Act.put, List.getElem_toArray, List.getElem_cons_succ, List.getElem_cons_zero, List.setIfInBounds_toArray, List.set_cons_zero, List.set_cons_succ]
  refine wpAnyH_take (i := 26) (v := ?_) rfl (by kernel_rfl) (by kernel_rfl) (by kernel_rfl) (fun _ _ _ h => h) (Or.inl ⟨by rfl, ?_⟩) (by assumption) ?_
  rotate_left 1
  · (intro w hSw; (try dsimp only at hSw); go_simp <;> (with_reducible rfl))
  try simp only [Act.put, List.getElem_toArray, List.getElem_cons_succ, List.getElem_cons_zero, List.setIfInBounds_toArray, List.set_cons_zero, List.set_cons_succ]
  refine wpAnyH_take (i := 27) (v := ?_) rfl (by kernel_rfl) (by kernel_rfl) (by kernel_rfl) (fun _ _ _ h => h) (Or.inl ⟨by rfl, ?_⟩) (by assumption) ?_
  rotate_left 1
  · (intro w hSw; (try dsimp only at hSw); go_simp <;> (with_reducible rfl))
  try simp only [Act.put, List.getElem_toArray, List.getElem_cons_succ, List.getElem_cons_zero, List.setIfInBounds_toArray, List.set_cons_zero, List.set_cons_succ]
  refine wpAnyH_take (i := 28) (v := ?_) rfl (by kernel_rfl) (by kernel_rfl) (by kernel_rfl) (fun _ _ _ h => h) (Or.inl ⟨by rfl, ?_⟩) (by assumption) ?_
  rotate_left 1
  · (intro w hSw; (try dsimp only at hSw); go_simp <;> (with_reducible rfl))
  try simp only [Act.put, List.getElem_toArray, List.getElem_cons_succ, List.getElem_cons_zero, List.setIfInBounds_toArray, List.set_cons_zero, List.set_cons_succ]
  refine wpAnyH_take (i := 29) (v := ?_) rfl (by kernel_rfl) (by kernel_rfl) (by kernel_rfl) (fun _ _ _ h => h) (Or.inl ⟨by rfl, ?_⟩) (by assumption) ?_
  rotate_left 1
  · (intro w hSw; (try dsimp only at hSw); go_simp <;> (with_reducible rfl))
  try simp only [Act.put, List.getElem_toArray, List.getElem_cons_succ, List.getElem_cons_zero, List.setIfInBounds_toArray, List.set_cons_zero, List.set_cons_succ]
  refine wpAnyH_take (i := 30) (v := ?_) rfl (by kernel_rfl) (by kernel_rfl) (by kernel_rfl) (fun _ _ _ h => h) (Or.inl ⟨by rfl, ?_⟩) (by assumption) ?_
  rotate_left 1
  · (intro w hSw; (try dsimp only at hSw); go_simp <;> (with_reducible rfl))
  try simp only [Act.put, List.getElem_toArray, List.getElem_cons_succ, List.getElem_cons_zero, List.setIfInBounds_toArray, List.set_cons_zero, List.set_cons_succ]
  refine wpAnyH_take (i := 31) (v := ?_) rfl (by kernel_rfl) (by kernel_rfl) (by kernel_rfl) (fun _ _ _ h => h) (Or.inl ⟨by rfl, ?_⟩) (by assumption) ?_
  rotate_left 1
  · (intro w hSw; (try dsimp only at hSw); go_simp <;> (with_reducible rfl))
  try simp only [Act.put, List.getElem_toArray, List.getElem_cons_succ, List.getElem_cons_zero, List.setIfInBounds_toArray, List.set_cons_zero, List.set_cons_succ]
  refine wpAnyH_take (i := 32) (v := ?_) rfl (by kernel_rfl) (by kernel_rfl) (by kernel_rfl) (fun _ _ _ h => h) (Or.inl ⟨by rfl, ?_⟩) (by assumption) ?_
  rotate_left 1
  · (intro w hSw; (try dsimp only at hSw); go_simp <;> (with_reducible rfl))
  try simp only [Act.put, List.getElem_toArray, List.getElem_cons_succ, List.getElem_cons_zero, List.setIfInBounds_toArray, List.set_cons_zero, List.set_cons_succ]
  refine wpAnyH_take (i := 33) (v := ?_) rfl (by kernel_rfl) (by kernel_rfl) (by kernel_rfl) (fun _ _ _ h => h) (Or.inl ⟨by rfl, ?_⟩) (by assumption) ?_
  rotate_left 1
  · (intro w hSw; (try dsimp only at hSw); go_simp <;> (with_reducible rfl))
  try simp only [Act.put, List.getElem_toArray, List.getElem_cons_succ, List.getElem_cons_zero, List.setIfInBounds_toArray, List.set_cons_zero, List.set_cons_succ]
  refine wpAnyH_take (i := 34) (v := ?_) rfl (by kernel_rfl) (by kernel_rfl) (by kernel_rfl) (fun _ _ _ h => h) (Or.inl ⟨by rfl, ?_⟩) (by assumption) ?_
  rotate_left 1
  · (intro w hSw; (try dsimp only at hSw); go_simp <;> (with_reducible rfl))
  try simp only [Act.put, List.getElem_toArray, List.getElem_cons_succ, List.getElem_cons_zero, List.setIfInBounds_toArray, List.set_cons_zero, List.set_cons_succ]
  refine wpAnyH_take (i := 35) (v := ?_) rfl (by kernel_rfl) (by kernel_rfl) (by kernel_rfl) (fun _ _ _ h => h) (Or.inl ⟨by rfl, ?_⟩) (by assumption) ?_
  rotate_left 1
  · (intro w hSw; (try dsimp only at hSw); go_simp <;> (with_reducible rfl))
  try simp only [Act.put, List.getElem_toArray, List.getElem_cons_succ, List.getElem_cons_zero, List.setIfInBounds_toArray, List.set_cons_zero, List.set_cons_succ]
  refine wpAnyH_take (i := 36) (v := ?_) rfl (by kernel_rfl) (by kernel_rfl) (by kernel_rfl) (fun _ _ _ h => h) (Or.inl ⟨by rfl, ?_⟩) (by assumption) ?_
  rotate_left 1
  · (intro w hSw; (try dsimp only at hSw); go_simp <;> (with_reducible rfl))
  try simp only [Act.put, List.getElem_toArray, List.getElem_cons_succ, List.getElem_cons_zero, List.setIfInBounds_toArray, List.set_cons_zero, List.set_cons_succ]
  refine wpAnyH_take (i := 37) (v := ?_) rfl (by kernel_rfl) (by kernel_rfl) (by kernel_rfl) (fun _ _ _ h => h) (Or.inl ⟨by rfl, ?_⟩) (by assumption) ?_
  rotate_left 1
  · (intro w hSw; (try dsimp only at hSw); go_simp <;> (with_reducible rfl))
  try simp only [Act.put, List.getElem_toArray, List.getElem_cons_succ, List.getElem_cons_zero, List.setIfInBounds_toArray, List.set_cons_zero, List.set_cons_succ]
  refine wpAnyH_take (i := 38) (v := ?_) rfl (by kernel_rfl) (by kernel_rfl) (by kernel_rfl) (fun _ _ _ h => h) (Or.inl ⟨by rfl, ?_⟩) (by assumption) ?_
  rotate_left 1
  · (intro w hSw; (try dsimp only at hSw); go_simp <;> (with_reducible rfl))
  try simp only [Act.put, List.getElem_toArray, List.getElem_cons_succ, List.getElem_cons_zero, List.setIfInBounds_toArray, List.set_cons_zero, List.set_cons_succ]
  refine wpAnyH_ready (rs := [39]) (by kernel_rfl) (by simp) ?_
  refine AllReadyH.cons rfl (fun K hK => ?_) AllReadyH.nil
  go_simp
  refine (held (W := U14) hB.out (km1 _ _ hcm _ (CM.out _ (by assumption))) (by assumption)).mono ?_
  rintro e x3 ⟨rfl, hb, hw⟩
  (try go_wp2_with fail)
  refine hK.out _ _ hw (fun hH3 => ?_)
  clear hK hH2 hb hw
  try simp only [Act.put, List.getElem_toArray, List.getElem_cons_succ, List.getElem_cons_zero, List.setIfInBounds_toArray, List.set_cons_zero, List.set_cons_succ]
  refine wpAnyH_take (i := 40) (v := ?_) rfl (by kernel_rfl) (by kernel_rfl) (by kernel_rfl) (fun _ _ _ h => h) (Or.inl ⟨by rfl, ?_⟩) (by assumption) ?_
  rotate_left 1
  · (intro w hSw; (try dsimp only at hSw); go_simp <;> (with_reducible rfl))
  try simp only [Act.put, List.getElem_toArray, List.getElem_cons_succ, List.getElem_cons_zero, List.setIfInBounds_toArray, List.set_cons_zero, List.set_cons_succ]
  refine wpAnyH_take (i := 41) (v := ?_) rfl (by kernel_rfl) (by kernel_rfl) (by kernel_rfl) (fun _ _ _ h => h) (Or.inl ⟨by rfl, ?_⟩) (by assumption) ?_
  rotate_left 1
  · (intro w hSw; (try dsimp only at hSw); go_simp <;> (with_reducible rfl))
  try simp only [Act.put, List.getElem_toArray, List.getElem_cons_succ, List.getElem_cons_zero, List.setIfInBounds_toArray, List.set_cons_zero, List.set_cons_succ]
  refine wpAnyH_take (i := 42) (v := ?_) rfl (by kernel_rfl) (by kernel_rfl) (by kernel_rfl) (fun _ _ _ h => h) (Or.inl ⟨by rfl, ?_⟩) (by assumption) ?_
  rotate_left 1
  · (intro w hSw; (try dsimp only at hSw); go_simp <;> (with_reducible rfl))
  try simp only [Act.put, List.getElem_toArray, List.getElem_cons_succ, List.getElem_cons_zero, List.setIfInBounds_toArray, List.set_cons_zero, List.set_cons_succ]
  refine wpAnyH_ready (rs := [43]) (by kernel_rfl) (by simp) ?_
  refine AllReadyH.cons rfl (fun K hK => ?_) AllReadyH.nil
  go_simp
  have hnew := rowsLit (enc := encX) (k := 4) (fun _ => rfl) x3 [(([], 0), ([], []))] #[.string ⟨#[]⟩, .int .i64 0, .string ⟨#[]⟩, .string ⟨#[]⟩] 26 rfl
  have bb : Below x3.heap.size x3 (x3.alloc (.cells #[.string ⟨#[]⟩, .int .i64 0, .string ⟨#[]⟩, .string ⟨#[]⟩] 26)) := Below.alloc (Below.refl _ _) (Nat.le_refl _) _
  obtain ⟨x4, hU⟩ : ∃ U, x3.alloc (.cells #[.string ⟨#[]⟩, .int .i64 0, .string ⟨#[]⟩, .string ⟨#[]⟩] 26) = U := ⟨_, rfl⟩
  rw [hU] at hnew bb ⊢
  have hw : Below U14.heap.size U14 x4 := Below.more hH3 bb
  have Lz := Lib.hid hnew
  clear hnew hU
  refine hK.out _ _ hw (fun hH4 => ?_)
  clear hK hH3 bb hw
  try simp only [Act.put, List.getElem_toArray, List.getElem_cons_succ, List.getElem_cons_zero, List.setIfInBounds_toArray, List.set_cons_zero, List.set_cons_succ]
  refine wpAnyH_ready (rs := [44]) (by kernel_rfl) (by simp) ?_
  refine AllReadyH.cons rfl (fun K hK => ?_) AllReadyH.nil
  go_simp
  refine (held (W := U14) hB.out (km2 _ _ Lz.out) (by assumption)).mono ?_
  rintro e x5 ⟨rfl, hb, hw⟩
  replace Lz := Lib.hid (Lz.out.below hb)
  (try go_wp2_with fail)
  refine hK.out _ _ hw (fun hH5 => ?_)
  clear hK hH4 hb hw
  try simp only [Act.put, List.getElem_toArray, List.getElem_cons_succ, List.getElem_cons_zero, List.setIfInBounds_toArray, List.set_cons_zero, List.set_cons_succ]
  refine wpAnyH_take (i := 45) (v := ?_) rfl (by kernel_rfl) (by kernel_rfl) (by kernel_rfl) (fun _ _ _ h => h) (Or.inl ⟨by rfl, ?_⟩) (by assumption) ?_
  rotate_left 1
  · (intro w hSw; (try dsimp only at hSw); go_simp <;> (with_reducible rfl))
  try simp only [Act.put, List.getElem_toArray, List.getElem_cons_succ, List.getElem_cons_zero, List.setIfInBounds_toArray, List.set_cons_zero, List.set_cons_succ]
  refine wpAnyH_take (i := 46) (v := ?_) rfl (by kernel_rfl) (by kernel_rfl) (by kernel_rfl) (fun _ _ _ h => h) (Or.inl ⟨by rfl, ?_⟩) (by assumption) ?_
  rotate_left 1
  · (intro w hSw; (try dsimp only at hSw); go_simp <;> (with_reducible rfl))
  try simp only [Act.put, List.getElem_toArray, List.getElem_cons_succ, List.getElem_cons_zero, List.setIfInBounds_toArray, List.set_cons_zero, List.set_cons_succ]
  refine wpAnyH_take (i := 47) (v := ?_) rfl (by kernel_rfl) (by kernel_rfl) (by kernel_rfl) (fun _ _ _ h => h) (Or.inl ⟨by rfl, ?_⟩) (by assumption) ?_
  rotate_left 1
  · (intro w hSw; (try dsimp only at hSw); go_simp <;> (with_reducible rfl))
  try simp only [Act.put, List.getElem_toArray, List.getElem_cons_succ, List.getElem_cons_zero, List.setIfInBounds_toArray, List.set_cons_zero, List.set_cons_succ]
  refine wpAnyH_done (by kernel_rfl) ?_ _
  refine NoPanic.normal ?_
  have bZ := hH5
  clear hH5
  go_wp2_with fail
  go_ret
  exact ⟨ret_bool (by first | rfl | simp), Below.more BW bZ⟩
end Go.Proofs.YtmllklfjngapiaaDoor
