/- The walk of BookTells. -/
import Derived.Test.YtemnimbedmkagaaGreatDoorWNames6
namespace Go.Proofs.YtemnimbedmkagaaGreatDoor
open Go.RowKit
set_option linter.unusedSimpArgs false
set_option linter.unusedVariables false
variable {G : World → Prop}

theorem shL_szk {x : Ln} {k : Nat} (h : shL x = true) (hk : 100 ≤ k) : SzK k x := by
  unfold shL at h
  simp only [Bool.and_eq_true, decide_eq_true_eq] at h
  exact ⟨⟨Nat.le_trans h.2.1 (by decide), Nat.le_trans h.2.2 (by decide)⟩, Nat.le_trans h.1.1 hk, Nat.le_trans h.1.2 hk⟩
/-- Whether one line, laid alone, is small. -/
theorem small_one (a s n d : List UInt8) (w : World) : Calls Tryz.prog 7 #[.slice (some ⟨w.heap.size, 0, none⟩) 1 1] (w.alloc (.cells #[.string ⟨a.toArray⟩, .string ⟨s.toArray⟩, .string ⟨n.toArray⟩, .string ⟨d.toArray⟩] 27)) fun e w' => e = .returned (.bool (smB [((a, s), (n, d))])) ∧ Below w.heap.size w w' :=
  (rbsmall_any (some ⟨w.heap.size, 0, none⟩) 1 [((a, s), (n, d))] _ (Nat.le_refl _) (show 1 ≤ 4611686018427387904 by decide) (lns_one w a s n d _)).mono fun _ _ ⟨he, hb⟩ => ⟨he, Below.step _ hb⟩
theorem small_of_one {x : Ln} (h : smB [x] = true) : shL x = true := (smB_iff.1 h).1 x (List.mem_singleton.2 rfl)
theorem same_row (p q : Option Addr) (c c' : Nat) (ls : List Ln) (w : World) (hl : ls.length ≤ 4611686018427387904) (h : Lns w p ls) (h' : Lns w q ls) : Calls Tryz.prog 11 #[.slice p ls.length c, .slice q ls.length c'] w (GiveB w true) := by
  have k := rbsame_any p q c c' ls ls w hl hl h h'
  rw [beq_self_eq_true] at k
  exact k
theorem put_len (ls : List Ln) (k q : Key) : (putB ls k q).length ≤ 2 * ls.length + 1 := ins_len _ _ _ _
theorem add_len (ls : List Ln) (x : Ln) : (addB ls x).1.length ≤ 2 * ls.length + 1 := by
  unfold addB
  split
  · exact put_len _ _ _
  · exact Nat.zero_le _
theorem heldRow {P : Program} {f : FuncId} {args : Array Value} {w W : World} {B : Nat} {n : Nat} {R : Option Addr → World → Prop} (hB : B ≤ W.heap.size) (c : Calls P f args w fun e w' => (∃ p c, e = .returned (.slice p n c) ∧ n ≤ c ∧ R p w') ∧ Below w.heap.size w w') (h : Below B W w) :
    Calls P f args w fun e w' => (∃ p c, e = .returned (.slice p n c) ∧ n ≤ c ∧ R p w') ∧ Below w.heap.size w w' ∧ Below B W w' := c.mono fun _ _ ⟨he, hb⟩ => ⟨he, hb, h.trans (hb.mono (Nat.le_trans hB h.size))⟩
set_option maxRecDepth 100000 in
set_option maxHeartbeats 4000000 in
theorem tells6_b (H : BookC G) (p : Option Addr) (c : Nat) (ls : List Ln) (a s n d : List UInt8)  (w : World) (hg : G w)
    (CS1 : Hid (∀ v, Below w.heap.size w v → Calls Tryz.prog 7 #[.slice p ls.length c] v (GiveB v false))) :
    Calls Tryz.prog 3 #[.slice p ls.length c, .agg #[.string ⟨a.toArray⟩, .string ⟨s.toArray⟩, .string ⟨n.toArray⟩, .string ⟨d.toArray⟩]] w (GiveB w true) := by
  have HB := Lib.hid H; have HT := Lib.hid hg; clear H hg
  go_enter Tryz.func3, Tryz.ntmps3
  go_wp2_with fail
  have BW := Below.refl w.heap.size w
  have b0 : Below w.heap.size w w := Below.refl _ _
  obtain ⟨U1, hU, bU, s1, rl0, rl1, rl2, rl3⟩ := lay4 b0 (.string ⟨a.toArray⟩) (.string ⟨s.toArray⟩) (.string ⟨n.toArray⟩) (.string ⟨d.toArray⟩) 27
  rw [hU]; clear hU
  clear s1
  replace BW := Below.more BW bU
  replace HT := Lib.hid (HB.out.below HT.out bU)
  clear bU
  have b1 := Below.refl U1.heap.size U1
  go_wp2_with fail
  refine (CS1.out _ (Below.more BW b1)).mono ?_
  rintro e w2 ⟨rfl, b⟩
  have b2 := Below.more b1 b
  clear b
  go_wp2_with fail
  refine (fixed6_any HB.out _ (HB.out.below HT.out b2)).mono ?_
  rintro e w3 ⟨rfl, b⟩
  have b3 := Below.more b2 b
  clear b
  go_wp2_with fail
  go_ret
  exact ⟨ret_bool (by first | rfl | simp [*]), Below.more BW b3⟩
set_option maxRecDepth 100000 in
set_option maxHeartbeats 4000000 in
theorem tells6_l (H : BookC G) (p : Option Addr) (c : Nat) (ls : List Ln) (a s n d : List UInt8)  (w : World) (hg : G w)
    (CS1 : Hid (∀ v, Below w.heap.size w v → Calls Tryz.prog 7 #[.slice p ls.length c] v (GiveB v true)))
    (CS2 : Hid (∀ v, Calls Tryz.prog 7 #[.slice (some ⟨v.heap.size, 0, none⟩) 1 1] (v.alloc (.cells #[.string ⟨a.toArray⟩, .string ⟨s.toArray⟩, .string ⟨n.toArray⟩, .string ⟨d.toArray⟩] 27)) fun e w' => e = .returned (.bool false) ∧ Below v.heap.size v w')) :
    Calls Tryz.prog 3 #[.slice p ls.length c, .agg #[.string ⟨a.toArray⟩, .string ⟨s.toArray⟩, .string ⟨n.toArray⟩, .string ⟨d.toArray⟩]] w (GiveB w true) := by
  have HB := Lib.hid H; have HT := Lib.hid hg; clear H hg
  go_enter Tryz.func3, Tryz.ntmps3
  go_wp2_with fail
  have BW := Below.refl w.heap.size w
  have b0 : Below w.heap.size w w := Below.refl _ _
  obtain ⟨U1, hU, bU, s1, rl0, rl1, rl2, rl3⟩ := lay4 b0 (.string ⟨a.toArray⟩) (.string ⟨s.toArray⟩) (.string ⟨n.toArray⟩) (.string ⟨d.toArray⟩) 27
  rw [hU]; clear hU
  clear s1
  replace BW := Below.more BW bU
  replace HT := Lib.hid (HB.out.below HT.out bU)
  clear bU
  have b1 := Below.refl U1.heap.size U1
  go_wp2_with fail
  refine (CS1.out _ (Below.more BW b1)).mono ?_
  rintro e w2 ⟨rfl, b⟩
  have b2 := Below.more b1 b
  clear b
  go_wp2_with fail
  refine (CS2.out _).mono ?_
  rintro e w3 ⟨rfl, b⟩
  have b3 := Below.more b2 b
  clear b
  go_wp2_with fail
  refine (fixed6_any HB.out _ (HB.out.below HT.out b3)).mono ?_
  rintro e w4 ⟨rfl, b⟩
  have b4 := Below.more b3 b
  clear b
  go_wp2_with fail
  go_ret
  exact ⟨ret_bool (by first | rfl | simp [*]), Below.more BW b4⟩
set_option maxRecDepth 100000 in
set_option maxHeartbeats 4000000 in
theorem tells6_main (H : BookC G) (p : Option Addr) (c : Nat) (ls : List Ln) (a s n d : List UInt8) (M N : List Ln) (hM : M.length ≤ 4611686018427387904) (hN : N.length ≤ 4611686018427387904) {bb mb nb : Bool} {g1 g2 t1 t2 : List UInt8} (w : World) (hg : G w)
    (CS1 : Hid (∀ v, Below w.heap.size w v → Calls Tryz.prog 7 #[.slice p ls.length c] v (GiveB v true)))
    (CS2 : Hid (∀ v, Calls Tryz.prog 7 #[.slice (some ⟨v.heap.size, 0, none⟩) 1 1] (v.alloc (.cells #[.string ⟨a.toArray⟩, .string ⟨s.toArray⟩, .string ⟨n.toArray⟩, .string ⟨d.toArray⟩] 27)) fun e w' => e = .returned (.bool true) ∧ Below v.heap.size v w'))
    (CA : Hid (∀ v, Below w.heap.size w v → G v → Calls Tryz.prog 9 #[.slice p ls.length c, .agg #[.string ⟨a.toArray⟩, .string ⟨s.toArray⟩, .string ⟨n.toArray⟩, .string ⟨d.toArray⟩]] v (fun e w' => (∃ p c, e = .returned (.tuple #[.slice p M.length c, .bool bb]) ∧ M.length ≤ c ∧ Lns w' p M) ∧ Below v.heap.size v w')))
    (CR : Hid (∀ v, Below w.heap.size w v → Calls Tryz.prog 10 #[.slice p ls.length c, .agg #[.string ⟨a.toArray⟩, .string ⟨s.toArray⟩, .string ⟨n.toArray⟩, .string ⟨d.toArray⟩]] v (fun e w' => (∃ p c, e = .returned (.tuple #[.slice p M.length c, .bool bb]) ∧ M.length ≤ c ∧ Lns w' p M) ∧ Below v.heap.size v w')))
    (CM : Hid (∀ v, Below w.heap.size w v → G v → Calls Tryz.prog 12 #[.slice p ls.length c] v (GiveB v mb)))
    (CMR : Hid (∀ v, Below w.heap.size w v → Calls Tryz.prog 13 #[.slice p ls.length c] v (GiveB v mb)))
    (CN : Hid (∀ v, Below w.heap.size w v → G v → Calls Tryz.prog 14 #[.string ⟨a.toArray⟩] v (GiveB v nb)))
    (CNR : Hid (∀ v, Below w.heap.size w v → Calls Tryz.prog 15 #[.string ⟨a.toArray⟩] v (GiveB v nb)))
    (CG : Hid (∀ v, Below w.heap.size w v → G v → Calls Tryz.prog 16 #[.slice p ls.length c, .string ⟨a.toArray⟩, .string ⟨s.toArray⟩] v (GiveR v (g1, g2))))
    (CGR : Hid (∀ v, Below w.heap.size w v → Calls Tryz.prog 17 #[.slice p ls.length c, .string ⟨a.toArray⟩, .string ⟨s.toArray⟩] v (GiveR v (g1, g2))))
    (CT : Hid (∀ v, Below w.heap.size w v → G v → Calls Tryz.prog 18 #[.slice p ls.length c, .string ⟨s.toArray⟩] v (GiveR v (t1, t2))))
    (CTR : Hid (∀ v, Below w.heap.size w v → Calls Tryz.prog 19 #[.slice p ls.length c, .string ⟨s.toArray⟩] v (GiveR v (t1, t2))))
    (CH : Hid (∀ v, Below w.heap.size w v → G v → Calls Tryz.prog 20 #[.slice p ls.length c, .string ⟨s.toArray⟩] v (fun e w' => (∃ p c, e = .returned (.slice p N.length c) ∧ N.length ≤ c ∧ Lns w' p N) ∧ Below v.heap.size v w')))
    (CHR : Hid (∀ v, Below w.heap.size w v → Calls Tryz.prog 21 #[.slice p ls.length c, .string ⟨s.toArray⟩] v (fun e w' => (∃ p c, e = .returned (.slice p N.length c) ∧ N.length ≤ c ∧ Lns w' p N) ∧ Below v.heap.size v w'))) :
    Calls Tryz.prog 3 #[.slice p ls.length c, .agg #[.string ⟨a.toArray⟩, .string ⟨s.toArray⟩, .string ⟨n.toArray⟩, .string ⟨d.toArray⟩]] w (GiveB w true) := by
  have HB := Lib.hid H; have HT := Lib.hid hg; clear H hg
  go_enter Tryz.func3, Tryz.ntmps3
  go_wp2_with fail
  have BW := Below.refl w.heap.size w
  have b0 : Below w.heap.size w w := Below.refl _ _
  obtain ⟨U1, hU, bU, s1, rl0, rl1, rl2, rl3⟩ := lay4 b0 (.string ⟨a.toArray⟩) (.string ⟨s.toArray⟩) (.string ⟨n.toArray⟩) (.string ⟨d.toArray⟩) 27
  rw [hU]; clear hU
  clear s1
  replace BW := Below.more BW bU
  replace HT := Lib.hid (HB.out.below HT.out bU)
  clear bU
  have b1 := Below.refl U1.heap.size U1
  go_wp2_with fail
  refine (CS1.out _ (Below.more BW b1)).mono ?_
  rintro e w2 ⟨rfl, b⟩
  have b2 := Below.more b1 b
  clear b
  go_wp2_with fail
  refine (CS2.out _).mono ?_
  rintro e w3 ⟨rfl, b⟩
  have b3 := Below.more b2 b
  clear b
  go_wp2_with fail
  refine (CA.out _ (Below.more BW b3) (HB.out.below HT.out b3)).mono ?_
  rintro e U4 ⟨⟨p1, c1, rfl, hc1, hl1⟩, b⟩
  have bU := Below.more b3 b
  clear b
  replace rl0 := fun v (h : Below U4.heap.size U4 v) => rl0 v (Below.more bU h)
  replace rl1 := fun v (h : Below U4.heap.size U4 v) => rl1 v (Below.more bU h)
  replace rl2 := fun v (h : Below U4.heap.size U4 v) => rl2 v (Below.more bU h)
  replace rl3 := fun v (h : Below U4.heap.size U4 v) => rl3 v (Below.more bU h)
  replace BW := Below.more BW bU
  replace HT := Lib.hid (HB.out.below HT.out bU)
  have L1 := Lib.hid hl1
  clear hl1 bU
  have b4 := Below.refl U4.heap.size U4
  go_wp2_with fail
  refine (CR.out _ (Below.more BW b4)).mono ?_
  rintro e U5 ⟨⟨p2, c2, rfl, hc2, hl2⟩, b⟩
  have bU := Below.more b4 b
  clear b
  replace rl0 := fun v (h : Below U5.heap.size U5 v) => rl0 v (Below.more bU h)
  replace rl1 := fun v (h : Below U5.heap.size U5 v) => rl1 v (Below.more bU h)
  replace rl2 := fun v (h : Below U5.heap.size U5 v) => rl2 v (Below.more bU h)
  replace rl3 := fun v (h : Below U5.heap.size U5 v) => rl3 v (Below.more bU h)
  replace L1 := Lib.hid (L1.out.below bU)
  replace BW := Below.more BW bU
  replace HT := Lib.hid (HB.out.below HT.out bU)
  have L2 := Lib.hid hl2
  clear hl2 bU
  have b5 := Below.refl U5.heap.size U5
  go_wp2_with fail
  try simp only [List.append_eq, List.cons_append, List.nil_append]
  have hB := Lib.hid (Nat.le_refl U5.heap.size)
  refine wp_region_noPanic ?_
  refine wp_region_held_drew (S := fun w' => Below U5.heap.size U5 w') (by kernel_rfl) (b5.drew) (fun hH0 => ?_)
  refine wpAnyH_ready (rs := [0]) (by kernel_rfl) (by simp) ?_
  refine AllReadyH.cons rfl (fun K hK => ?_) AllReadyH.nil
  go_simp
  refine (held (W := U5) hB.out (fixed6_any HB.out _ (HB.out.below HT.out (by assumption))) (by assumption)).mono ?_
  rintro e w'' ⟨rfl, hb, hw⟩
  (try go_wp2_with fail)
  refine hK.out _ _ hw (fun hH1 => ?_)
  clear hK hH0 hb
  try simp only [Act.put, List.getElem_toArray, List.getElem_cons_succ, List.getElem_cons_zero, List.setIfInBounds_toArray, List.set_cons_zero, List.set_cons_succ]
  refine wpAnyH_take (i := 1) (v := ?_) rfl (by kernel_rfl) (by kernel_rfl) (by kernel_rfl) (fun _ _ _ h => h) (Or.inl ⟨by rfl, ?_⟩) (by assumption) ?_
  rotate_left 1
  · (intro w hSw; (try dsimp only at hSw); go_simp <;> (with_reducible rfl))
  try simp only [Act.put, List.getElem_toArray, List.getElem_cons_succ, List.getElem_cons_zero, List.setIfInBounds_toArray, List.set_cons_zero, List.set_cons_succ]
  refine wpAnyH_take (i := 2) (v := ?_) rfl (by kernel_rfl) (by kernel_rfl) (by kernel_rfl) (fun _ _ _ h => h) (Or.inl ⟨by rfl, ?_⟩) (by assumption) ?_
  rotate_left 1
  · (intro w hSw; (try dsimp only at hSw); go_simp <;> (with_reducible rfl))
  try simp only [Act.put, List.getElem_toArray, List.getElem_cons_succ, List.getElem_cons_zero, List.setIfInBounds_toArray, List.set_cons_zero, List.set_cons_succ]
  refine wpAnyH_take (i := 3) (v := ?_) rfl (by kernel_rfl) (by kernel_rfl) (by kernel_rfl) (fun _ _ _ h => h) (Or.inl ⟨by rfl, ?_⟩) (by assumption) ?_
  rotate_left 1
  · (intro w hSw; (try dsimp only at hSw); go_simp <;> (with_reducible rfl))
  try simp only [Act.put, List.getElem_toArray, List.getElem_cons_succ, List.getElem_cons_zero, List.setIfInBounds_toArray, List.set_cons_zero, List.set_cons_succ]
  refine wpAnyH_ready (rs := [4]) (by kernel_rfl) (by simp) ?_
  refine AllReadyH.cons rfl (fun K hK => ?_) AllReadyH.nil
  go_simp
  refine (held (W := U5) hB.out (same_row _ _ _ _ M _ hM (L1.out.below (by assumption)) (L2.out.below (by assumption))) (by assumption)).mono ?_
  rintro e w'' ⟨rfl, hb, hw⟩
  (try go_wp2_with fail)
  refine hK.out _ _ hw (fun hH2 => ?_)
  clear hK hH1 hb
  try simp only [Act.put, List.getElem_toArray, List.getElem_cons_succ, List.getElem_cons_zero, List.setIfInBounds_toArray, List.set_cons_zero, List.set_cons_succ]
  refine wpAnyH_take (i := 5) (v := ?_) rfl (by kernel_rfl) (by kernel_rfl) (by kernel_rfl) (fun _ _ _ h => h) (Or.inl ⟨by rfl, ?_⟩) (by assumption) ?_
  rotate_left 1
  · (intro w hSw; (try dsimp only at hSw); go_simp <;> (with_reducible rfl))
  try simp only [Act.put, List.getElem_toArray, List.getElem_cons_succ, List.getElem_cons_zero, List.setIfInBounds_toArray, List.set_cons_zero, List.set_cons_succ]
  refine wpAnyH_take (i := 6) (v := ?_) rfl (by kernel_rfl) (by kernel_rfl) (by kernel_rfl) (fun _ _ _ h => h) (Or.inl ⟨by rfl, ?_⟩) (by assumption) ?_
  rotate_left 1
  · (intro w hSw; (try dsimp only at hSw); go_simp <;> (with_reducible rfl))
  try simp only [Act.put, List.getElem_toArray, List.getElem_cons_succ, List.getElem_cons_zero, List.setIfInBounds_toArray, List.set_cons_zero, List.set_cons_succ]
  refine wpAnyH_take (i := 7) (v := ?_) rfl (by kernel_rfl) (by kernel_rfl) (by kernel_rfl) (fun _ _ _ h => h) (Or.inl ⟨by rfl, ?_⟩) (by assumption) ?_
  rotate_left 1
  · (intro w hSw; (try dsimp only at hSw); go_simp <;> (with_reducible rfl))
  try simp only [Act.put, List.getElem_toArray, List.getElem_cons_succ, List.getElem_cons_zero, List.setIfInBounds_toArray, List.set_cons_zero, List.set_cons_succ]
  refine wpAnyH_take (i := 8) (v := ?_) rfl (by kernel_rfl) (by kernel_rfl) (by kernel_rfl) (fun _ _ _ h => h) (Or.inl ⟨by rfl, ?_⟩) (by assumption) ?_
  rotate_left 1
  · (intro w hSw; (try dsimp only at hSw); go_simp <;> (with_reducible rfl))
  try simp only [Act.put, List.getElem_toArray, List.getElem_cons_succ, List.getElem_cons_zero, List.setIfInBounds_toArray, List.set_cons_zero, List.set_cons_succ]
  refine wpAnyH_take (i := 9) (v := ?_) rfl (by kernel_rfl) (by kernel_rfl) (by kernel_rfl) (fun _ _ _ h => h) (Or.inl ⟨by rfl, ?_⟩) (by assumption) ?_
  rotate_left 1
  · (intro w hSw; (try dsimp only at hSw); go_simp <;> (with_reducible rfl))
  try simp only [Act.put, List.getElem_toArray, List.getElem_cons_succ, List.getElem_cons_zero, List.setIfInBounds_toArray, List.set_cons_zero, List.set_cons_succ]
  refine wpAnyH_take (i := 10) (v := ?_) rfl (by kernel_rfl) (by kernel_rfl) (by kernel_rfl) (fun _ _ _ h => h) (Or.inl ⟨by rfl, ?_⟩) (by assumption) ?_
  rotate_left 1
  · (intro w hSw; (try dsimp only at hSw); go_simp <;> (with_reducible rfl))
  try simp only [Act.put, List.getElem_toArray, List.getElem_cons_succ, List.getElem_cons_zero, List.setIfInBounds_toArray, List.set_cons_zero, List.set_cons_succ]
  refine wpAnyH_take (i := 11) (v := ?_) rfl (by kernel_rfl) (by kernel_rfl) (by kernel_rfl) (fun _ _ _ h => h) (Or.inl ⟨by rfl, ?_⟩) (by assumption) ?_
  rotate_left 1
  · (intro w hSw; (try dsimp only at hSw); go_simp <;> (with_reducible rfl))
  try simp only [Act.put, List.getElem_toArray, List.getElem_cons_succ, List.getElem_cons_zero, List.setIfInBounds_toArray, List.set_cons_zero, List.set_cons_succ]
  refine wpAnyH_take (i := 12) (v := ?_) rfl (by kernel_rfl) (by kernel_rfl) (by kernel_rfl) (fun _ _ _ h => h) (Or.inl ⟨by rfl, ?_⟩) (by assumption) ?_
  rotate_left 1
  · (intro w hSw; (try dsimp only at hSw); go_simp <;> (with_reducible rfl))
  try simp only [Act.put, List.getElem_toArray, List.getElem_cons_succ, List.getElem_cons_zero, List.setIfInBounds_toArray, List.set_cons_zero, List.set_cons_succ]
  refine wpAnyH_take (i := 14) (v := ?_) rfl (by kernel_rfl) (by kernel_rfl) (by kernel_rfl) (fun _ _ _ h => h) (Or.inl ⟨by rfl, ?_⟩) (by assumption) ?_
  rotate_left 1
  · (intro w hSw; (try dsimp only at hSw); go_simp <;> (with_reducible rfl))
  try simp only [Act.put, List.getElem_toArray, List.getElem_cons_succ, List.getElem_cons_zero, List.setIfInBounds_toArray, List.set_cons_zero, List.set_cons_succ]
  refine wpAnyH_ready (rs := [13]) (by kernel_rfl) (by simp) ?_
  refine AllReadyH.cons rfl (fun K hK => ?_) AllReadyH.nil
  go_simp
  refine (held (W := U5) hB.out (CM.out _ (Below.more BW (by assumption)) (HB.out.below HT.out (by assumption))) (by assumption)).mono ?_
  rintro e w'' ⟨rfl, hb, hw⟩
  (try go_wp2_with fail)
  refine hK.out _ _ hw (fun hH3 => ?_)
  clear hK hH2 hb
  try simp only [Act.put, List.getElem_toArray, List.getElem_cons_succ, List.getElem_cons_zero, List.setIfInBounds_toArray, List.set_cons_zero, List.set_cons_succ]
  refine wpAnyH_ready (rs := [15]) (by kernel_rfl) (by simp) ?_
  refine AllReadyH.cons rfl (fun K hK => ?_) AllReadyH.nil
  go_simp
  refine (held (W := U5) hB.out (CMR.out _ (Below.more BW (by assumption))) (by assumption)).mono ?_
  rintro e w'' ⟨rfl, hb, hw⟩
  (try go_wp2_with fail)
  refine hK.out _ _ hw (fun hH4 => ?_)
  clear hK hH3 hb
  try simp only [Act.put, List.getElem_toArray, List.getElem_cons_succ, List.getElem_cons_zero, List.setIfInBounds_toArray, List.set_cons_zero, List.set_cons_succ]
  refine wpAnyH_take (i := 16) (v := ?_) rfl (by kernel_rfl) (by kernel_rfl) (by kernel_rfl) (fun _ _ _ h => h) (Or.inl ⟨by rfl, ?_⟩) (by assumption) ?_
  rotate_left 1
  · (intro w hSw; (try dsimp only at hSw); go_simp <;> (with_reducible rfl))
  try simp only [Act.put, List.getElem_toArray, List.getElem_cons_succ, List.getElem_cons_zero, List.setIfInBounds_toArray, List.set_cons_zero, List.set_cons_succ]
  refine wpAnyH_take (i := 17) (v := ?_) rfl (by kernel_rfl) (by kernel_rfl) (by kernel_rfl) (fun _ _ _ h => h) (Or.inl ⟨by rfl, ?_⟩) (by assumption) ?_
  rotate_left 1
  · (intro w hSw; (try dsimp only at hSw); go_simp <;> (with_reducible rfl))
  try simp only [Act.put, List.getElem_toArray, List.getElem_cons_succ, List.getElem_cons_zero, List.setIfInBounds_toArray, List.set_cons_zero, List.set_cons_succ]
  refine wpAnyH_take (i := 18) (v := ?_) rfl (by kernel_rfl) (by kernel_rfl) (by kernel_rfl) (fun _ _ _ h => h) (Or.inl ⟨by rfl, ?_⟩) (by assumption) ?_
  rotate_left 1
  · (intro w hSw; (try dsimp only at hSw); go_simp <;> (with_reducible rfl))
  try simp only [Act.put, List.getElem_toArray, List.getElem_cons_succ, List.getElem_cons_zero, List.setIfInBounds_toArray, List.set_cons_zero, List.set_cons_succ]
  refine wpAnyH_take (i := 19) (v := ?_) rfl (by kernel_rfl) (by kernel_rfl) (by kernel_rfl) (fun _ _ _ h => h) (Or.inl ⟨by rfl, ?_⟩) (by assumption) ?_
  rotate_left 1
  · (intro w hSw; (try dsimp only at hSw); go_simp <;> (with_reducible rfl))
  try simp only [Act.put, List.getElem_toArray, List.getElem_cons_succ, List.getElem_cons_zero, List.setIfInBounds_toArray, List.set_cons_zero, List.set_cons_succ]
  refine wpAnyH_take (i := 20) (v := ?_) rfl (by kernel_rfl) (by kernel_rfl) (by kernel_rfl) (fun _ _ _ h => h) (Or.inl ⟨by rfl, ?_⟩) (by assumption) ?_
  rotate_left 1
  · (intro w hSw; (try dsimp only at hSw); go_simp <;> (with_reducible rfl))
  try simp only [Act.put, List.getElem_toArray, List.getElem_cons_succ, List.getElem_cons_zero, List.setIfInBounds_toArray, List.set_cons_zero, List.set_cons_succ]
  refine wpAnyH_take (i := 22) (v := ?_) rfl (by kernel_rfl) (by kernel_rfl) (by kernel_rfl) (fun _ _ _ h => h) (Or.inl ⟨by rfl, ?_⟩) (by assumption) ?_
  rotate_left 1
  · (intro w hSw; (try dsimp only at hSw); go_simp <;> (with_reducible rfl))
  try simp only [Act.put, List.getElem_toArray, List.getElem_cons_succ, List.getElem_cons_zero, List.setIfInBounds_toArray, List.set_cons_zero, List.set_cons_succ]
  refine wpAnyH_take (i := 23) (v := ?_) rfl (by kernel_rfl) (by kernel_rfl) (by kernel_rfl) (fun _ _ _ h => h) (Or.inl ⟨by rfl, ?_⟩) (by assumption) ?_
  rotate_left 1
  · (intro w hSw; (try dsimp only at hSw); go_simp <;> (with_reducible rfl))
  try simp only [Act.put, List.getElem_toArray, List.getElem_cons_succ, List.getElem_cons_zero, List.setIfInBounds_toArray, List.set_cons_zero, List.set_cons_succ]
  refine wpAnyH_ready (rs := [21]) (by kernel_rfl) (by simp) ?_
  refine AllReadyH.cons rfl (fun K hK => ?_) AllReadyH.nil
  go_simp
  refine (held (W := U5) hB.out (CN.out _ (Below.more BW (by assumption)) (HB.out.below HT.out (by assumption))) (by assumption)).mono ?_
  rintro e w'' ⟨rfl, hb, hw⟩
  (try go_wp2_with fail)
  refine hK.out _ _ hw (fun hH5 => ?_)
  clear hK hH4 hb
  try simp only [Act.put, List.getElem_toArray, List.getElem_cons_succ, List.getElem_cons_zero, List.setIfInBounds_toArray, List.set_cons_zero, List.set_cons_succ]
  refine wpAnyH_ready (rs := [24]) (by kernel_rfl) (by simp) ?_
  refine AllReadyH.cons rfl (fun K hK => ?_) AllReadyH.nil
  go_simp
  refine (held (W := U5) hB.out (CNR.out _ (Below.more BW (by assumption))) (by assumption)).mono ?_
  rintro e w'' ⟨rfl, hb, hw⟩
  (try go_wp2_with fail)
  refine hK.out _ _ hw (fun hH6 => ?_)
  clear hK hH5 hb
  try simp only [Act.put, List.getElem_toArray, List.getElem_cons_succ, List.getElem_cons_zero, List.setIfInBounds_toArray, List.set_cons_zero, List.set_cons_succ]
  refine wpAnyH_take (i := 25) (v := ?_) rfl (by kernel_rfl) (by kernel_rfl) (by kernel_rfl) (fun _ _ _ h => h) (Or.inl ⟨by rfl, ?_⟩) (by assumption) ?_
  rotate_left 1
  · (intro w hSw; (try dsimp only at hSw); go_simp <;> (with_reducible rfl))
  try simp only [Act.put, List.getElem_toArray, List.getElem_cons_succ, List.getElem_cons_zero, List.setIfInBounds_toArray, List.set_cons_zero, List.set_cons_succ]
  refine wpAnyH_take (i := 26) (v := ?_) rfl (by kernel_rfl) (by kernel_rfl) (by kernel_rfl) (fun _ _ _ h => h) (Or.inl ⟨by rfl, ?_⟩) (by assumption) ?_
  rotate_left 1
  · (intro w hSw; (try dsimp only at hSw); go_simp <;> (with_reducible rfl))
  try simp only [Act.put, List.getElem_toArray, List.getElem_cons_succ, List.getElem_cons_zero, List.setIfInBounds_toArray, List.set_cons_zero, List.set_cons_succ]
  refine wpAnyH_take (i := 27) (v := ?_) rfl (by kernel_rfl) (by kernel_rfl) (by kernel_rfl) (fun _ _ _ h => h) (Or.inl ⟨by rfl, ?_⟩) (by assumption) ?_
  rotate_left 1
  · (intro w hSw; (try dsimp only at hSw); go_simp <;> (with_reducible rfl))
  try simp only [Act.put, List.getElem_toArray, List.getElem_cons_succ, List.getElem_cons_zero, List.setIfInBounds_toArray, List.set_cons_zero, List.set_cons_succ]
  refine wpAnyH_take (i := 28) (v := ?_) rfl (by kernel_rfl) (by kernel_rfl) (by kernel_rfl) (fun _ _ _ h => h) (Or.inl ⟨by rfl, ?_⟩) (by assumption) ?_
  rotate_left 1
  · (intro w hSw; (try dsimp only at hSw); go_simp <;> (with_reducible rfl))
  try simp only [Act.put, List.getElem_toArray, List.getElem_cons_succ, List.getElem_cons_zero, List.setIfInBounds_toArray, List.set_cons_zero, List.set_cons_succ]
  refine wpAnyH_take (i := 29) (v := ?_) rfl (by kernel_rfl) (by kernel_rfl) (by kernel_rfl) (fun _ _ _ h => h) (Or.inl ⟨by rfl, ?_⟩) (by assumption) ?_
  rotate_left 1
  · (intro w hSw; (try dsimp only at hSw); go_simp <;> (with_reducible rfl))
  try simp only [Act.put, List.getElem_toArray, List.getElem_cons_succ, List.getElem_cons_zero, List.setIfInBounds_toArray, List.set_cons_zero, List.set_cons_succ]
  refine wpAnyH_take (i := 30) (v := ?_) rfl (by kernel_rfl) (by kernel_rfl) (by kernel_rfl) (fun _ _ _ h => h) (Or.inl ⟨by rfl, ?_⟩) (by assumption) ?_
  rotate_left 1
  · (intro w hSw; (try dsimp only at hSw); go_simp <;> (with_reducible rfl))
  try simp only [Act.put, List.getElem_toArray, List.getElem_cons_succ, List.getElem_cons_zero, List.setIfInBounds_toArray, List.set_cons_zero, List.set_cons_succ]
  refine wpAnyH_take (i := 31) (v := ?_) rfl (by kernel_rfl) (by kernel_rfl) (by kernel_rfl) (fun _ _ _ h => h) (Or.inl ⟨by rfl, ?_⟩) (by assumption) ?_
  rotate_left 1
  · (intro w hSw; (try dsimp only at hSw); go_simp <;> (with_reducible rfl))
  try simp only [Act.put, List.getElem_toArray, List.getElem_cons_succ, List.getElem_cons_zero, List.setIfInBounds_toArray, List.set_cons_zero, List.set_cons_succ]
  refine wpAnyH_take (i := 32) (v := ?_) rfl (by kernel_rfl) (by kernel_rfl) (by kernel_rfl) (fun _ _ _ h => h) (Or.inl ⟨by rfl, ?_⟩) (by assumption) ?_
  rotate_left 1
  · (intro w hSw; (try dsimp only at hSw); go_simp <;> (with_reducible rfl))
  try simp only [Act.put, List.getElem_toArray, List.getElem_cons_succ, List.getElem_cons_zero, List.setIfInBounds_toArray, List.set_cons_zero, List.set_cons_succ]
  refine wpAnyH_take (i := 34) (v := ?_) rfl (by kernel_rfl) (by kernel_rfl) (by kernel_rfl) (fun _ _ _ h => h) (Or.inl ⟨by rfl, ?_⟩) (by assumption) ?_
  rotate_left 1
  · (intro w hSw; (try dsimp only at hSw); go_simp <;> (with_reducible rfl))
  try simp only [Act.put, List.getElem_toArray, List.getElem_cons_succ, List.getElem_cons_zero, List.setIfInBounds_toArray, List.set_cons_zero, List.set_cons_succ]
  refine wpAnyH_take (i := 35) (v := ?_) rfl (by kernel_rfl) (by kernel_rfl) (by kernel_rfl) (fun _ _ _ h => h) (Or.inl ⟨by rfl, ?_⟩) (by assumption) ?_
  rotate_left 1
  · (intro w hSw; (try dsimp only at hSw); go_simp <;> (with_reducible rfl))
  try simp only [Act.put, List.getElem_toArray, List.getElem_cons_succ, List.getElem_cons_zero, List.setIfInBounds_toArray, List.set_cons_zero, List.set_cons_succ]
  refine wpAnyH_take (i := 36) (v := ?_) rfl (by kernel_rfl) (by kernel_rfl) (by kernel_rfl) (fun _ _ _ h => h) (Or.inl ⟨by rfl, ?_⟩) (by assumption) ?_
  rotate_left 1
  · (intro w hSw; (try dsimp only at hSw); go_simp <;> (with_reducible rfl))
  try simp only [Act.put, List.getElem_toArray, List.getElem_cons_succ, List.getElem_cons_zero, List.setIfInBounds_toArray, List.set_cons_zero, List.set_cons_succ]
  refine wpAnyH_take (i := 37) (v := ?_) rfl (by kernel_rfl) (by kernel_rfl) (by kernel_rfl) (fun _ _ _ h => h) (Or.inl ⟨by rfl, ?_⟩) (by assumption) ?_
  rotate_left 1
  · (intro w hSw; (try dsimp only at hSw); go_simp <;> (with_reducible rfl))
  try simp only [Act.put, List.getElem_toArray, List.getElem_cons_succ, List.getElem_cons_zero, List.setIfInBounds_toArray, List.set_cons_zero, List.set_cons_succ]
  refine wpAnyH_take (i := 38) (v := ?_) rfl (by kernel_rfl) (by kernel_rfl) (by kernel_rfl) (fun _ _ _ h => h) (Or.inl ⟨by rfl, ?_⟩) (by assumption) ?_
  rotate_left 1
  · (intro w hSw; (try dsimp only at hSw); go_simp <;> (with_reducible rfl))
  try simp only [Act.put, List.getElem_toArray, List.getElem_cons_succ, List.getElem_cons_zero, List.setIfInBounds_toArray, List.set_cons_zero, List.set_cons_succ]
  refine wpAnyH_ready (rs := [33]) (by kernel_rfl) (by simp) ?_
  refine AllReadyH.cons rfl (fun K hK => ?_) AllReadyH.nil
  go_simp
  refine (held (W := U5) hB.out (CG.out _ (Below.more BW (by assumption)) (HB.out.below HT.out (by assumption))) (by assumption)).mono ?_
  rintro e w'' ⟨rfl, hb, hw⟩
  (try go_wp2_with fail)
  refine hK.out _ _ hw (fun hH7 => ?_)
  clear hK hH6 hb
  try simp only [Act.put, List.getElem_toArray, List.getElem_cons_succ, List.getElem_cons_zero, List.setIfInBounds_toArray, List.set_cons_zero, List.set_cons_succ]
  refine wpAnyH_ready (rs := [39]) (by kernel_rfl) (by simp) ?_
  refine AllReadyH.cons rfl (fun K hK => ?_) AllReadyH.nil
  go_simp
  refine (held (W := U5) hB.out (CGR.out _ (Below.more BW (by assumption))) (by assumption)).mono ?_
  rintro e w'' ⟨rfl, hb, hw⟩
  (try go_wp2_with fail)
  refine hK.out _ _ hw (fun hH8 => ?_)
  clear hK hH7 hb
  try simp only [Act.put, List.getElem_toArray, List.getElem_cons_succ, List.getElem_cons_zero, List.setIfInBounds_toArray, List.set_cons_zero, List.set_cons_succ]
  refine wpAnyH_take (i := 40) (v := ?_) rfl (by kernel_rfl) (by kernel_rfl) (by kernel_rfl) (fun _ _ _ h => h) (Or.inl ⟨by rfl, ?_⟩) (by assumption) ?_
  rotate_left 1
  · (intro w hSw; (try dsimp only at hSw); go_simp <;> (with_reducible rfl))
  try simp only [Act.put, List.getElem_toArray, List.getElem_cons_succ, List.getElem_cons_zero, List.setIfInBounds_toArray, List.set_cons_zero, List.set_cons_succ]
  refine wpAnyH_take (i := 41) (v := ?_) rfl (by kernel_rfl) (by kernel_rfl) (by kernel_rfl) (fun _ _ _ h => h) (Or.inl ⟨by rfl, ?_⟩) (by assumption) ?_
  rotate_left 1
  · (intro w hSw; (try dsimp only at hSw); go_simp <;> (with_reducible rfl))
  try simp only [Act.put, List.getElem_toArray, List.getElem_cons_succ, List.getElem_cons_zero, List.setIfInBounds_toArray, List.set_cons_zero, List.set_cons_succ]
  refine wpAnyH_take (i := 42) (v := ?_) rfl (by kernel_rfl) (by kernel_rfl) (by kernel_rfl) (fun _ _ _ h => h) (Or.inl ⟨by rfl, ?_⟩) (by assumption) ?_
  rotate_left 1
  · (intro w hSw; (try dsimp only at hSw); go_simp <;> (with_reducible rfl))
  try simp only [Act.put, List.getElem_toArray, List.getElem_cons_succ, List.getElem_cons_zero, List.setIfInBounds_toArray, List.set_cons_zero, List.set_cons_succ]
  refine wpAnyH_take (i := 43) (v := ?_) rfl (by kernel_rfl) (by kernel_rfl) (by kernel_rfl) (fun _ _ _ h => h) (Or.inl ⟨by rfl, ?_⟩) (by assumption) ?_
  rotate_left 1
  · (intro w hSw; (try dsimp only at hSw); go_simp <;> (with_reducible rfl))
  try simp only [Act.put, List.getElem_toArray, List.getElem_cons_succ, List.getElem_cons_zero, List.setIfInBounds_toArray, List.set_cons_zero, List.set_cons_succ]
  refine wpAnyH_take (i := 44) (v := ?_) rfl (by kernel_rfl) (by kernel_rfl) (by kernel_rfl) (fun _ _ _ h => h) (Or.inl ⟨by rfl, ?_⟩) (by assumption) ?_
  rotate_left 1
  · (intro w hSw; (try dsimp only at hSw); go_simp <;> (with_reducible rfl))
  try simp only [Act.put, List.getElem_toArray, List.getElem_cons_succ, List.getElem_cons_zero, List.setIfInBounds_toArray, List.set_cons_zero, List.set_cons_succ]
  refine wpAnyH_take (i := 45) (v := ?_) rfl (by kernel_rfl) (by kernel_rfl) (by kernel_rfl) (fun _ _ _ h => h) (Or.inl ⟨by rfl, ?_⟩) (by assumption) ?_
  rotate_left 1
  · (intro w hSw; (try dsimp only at hSw); go_simp <;> (with_reducible rfl))
  try simp only [Act.put, List.getElem_toArray, List.getElem_cons_succ, List.getElem_cons_zero, List.setIfInBounds_toArray, List.set_cons_zero, List.set_cons_succ]
  refine wpAnyH_take (i := 47) (v := ?_) rfl (by kernel_rfl) (by kernel_rfl) (by kernel_rfl) (fun _ _ _ h => h) (Or.inl ⟨by rfl, ?_⟩) (by assumption) ?_
  rotate_left 1
  · (intro w hSw; (try dsimp only at hSw); go_simp <;> (with_reducible rfl))
  try simp only [Act.put, List.getElem_toArray, List.getElem_cons_succ, List.getElem_cons_zero, List.setIfInBounds_toArray, List.set_cons_zero, List.set_cons_succ]
  refine wpAnyH_take (i := 48) (v := ?_) rfl (by kernel_rfl) (by kernel_rfl) (by kernel_rfl) (fun _ _ _ h => h) (Or.inl ⟨by rfl, ?_⟩) (by assumption) ?_
  rotate_left 1
  · (intro w hSw; (try dsimp only at hSw); go_simp <;> (with_reducible rfl))
  try simp only [Act.put, List.getElem_toArray, List.getElem_cons_succ, List.getElem_cons_zero, List.setIfInBounds_toArray, List.set_cons_zero, List.set_cons_succ]
  refine wpAnyH_take (i := 49) (v := ?_) rfl (by kernel_rfl) (by kernel_rfl) (by kernel_rfl) (fun _ _ _ h => h) (Or.inl ⟨by rfl, ?_⟩) (by assumption) ?_
  rotate_left 1
  · (intro w hSw; (try dsimp only at hSw); go_simp <;> (with_reducible rfl))
  try simp only [Act.put, List.getElem_toArray, List.getElem_cons_succ, List.getElem_cons_zero, List.setIfInBounds_toArray, List.set_cons_zero, List.set_cons_succ]
  refine wpAnyH_ready (rs := [46]) (by kernel_rfl) (by simp) ?_
  refine AllReadyH.cons rfl (fun K hK => ?_) AllReadyH.nil
  go_simp
  refine (held (W := U5) hB.out (CT.out _ (Below.more BW (by assumption)) (HB.out.below HT.out (by assumption))) (by assumption)).mono ?_
  rintro e w'' ⟨rfl, hb, hw⟩
  (try go_wp2_with fail)
  refine hK.out _ _ hw (fun hH9 => ?_)
  clear hK hH8 hb
  try simp only [Act.put, List.getElem_toArray, List.getElem_cons_succ, List.getElem_cons_zero, List.setIfInBounds_toArray, List.set_cons_zero, List.set_cons_succ]
  refine wpAnyH_ready (rs := [50]) (by kernel_rfl) (by simp) ?_
  refine AllReadyH.cons rfl (fun K hK => ?_) AllReadyH.nil
  go_simp
  refine (held (W := U5) hB.out (CTR.out _ (Below.more BW (by assumption))) (by assumption)).mono ?_
  rintro e w'' ⟨rfl, hb, hw⟩
  (try go_wp2_with fail)
  refine hK.out _ _ hw (fun hH10 => ?_)
  clear hK hH9 hb
  try simp only [Act.put, List.getElem_toArray, List.getElem_cons_succ, List.getElem_cons_zero, List.setIfInBounds_toArray, List.set_cons_zero, List.set_cons_succ]
  refine wpAnyH_take (i := 51) (v := ?_) rfl (by kernel_rfl) (by kernel_rfl) (by kernel_rfl) (fun _ _ _ h => h) (Or.inl ⟨by rfl, ?_⟩) (by assumption) ?_
  rotate_left 1
  · (intro w hSw; (try dsimp only at hSw); go_simp <;> (with_reducible rfl))
  try simp only [Act.put, List.getElem_toArray, List.getElem_cons_succ, List.getElem_cons_zero, List.setIfInBounds_toArray, List.set_cons_zero, List.set_cons_succ]
  refine wpAnyH_take (i := 52) (v := ?_) rfl (by kernel_rfl) (by kernel_rfl) (by kernel_rfl) (fun _ _ _ h => h) (Or.inl ⟨by rfl, ?_⟩) (by assumption) ?_
  rotate_left 1
  · (intro w hSw; (try dsimp only at hSw); go_simp <;> (with_reducible rfl))
  try simp only [Act.put, List.getElem_toArray, List.getElem_cons_succ, List.getElem_cons_zero, List.setIfInBounds_toArray, List.set_cons_zero, List.set_cons_succ]
  refine wpAnyH_take (i := 53) (v := ?_) rfl (by kernel_rfl) (by kernel_rfl) (by kernel_rfl) (fun _ _ _ h => h) (Or.inl ⟨by rfl, ?_⟩) (by assumption) ?_
  rotate_left 1
  · (intro w hSw; (try dsimp only at hSw); go_simp <;> (with_reducible rfl))
  try simp only [Act.put, List.getElem_toArray, List.getElem_cons_succ, List.getElem_cons_zero, List.setIfInBounds_toArray, List.set_cons_zero, List.set_cons_succ]
  refine wpAnyH_take (i := 54) (v := ?_) rfl (by kernel_rfl) (by kernel_rfl) (by kernel_rfl) (fun _ _ _ h => h) (Or.inl ⟨by rfl, ?_⟩) (by assumption) ?_
  rotate_left 1
  · (intro w hSw; (try dsimp only at hSw); go_simp <;> (with_reducible rfl))
  try simp only [Act.put, List.getElem_toArray, List.getElem_cons_succ, List.getElem_cons_zero, List.setIfInBounds_toArray, List.set_cons_zero, List.set_cons_succ]
  refine wpAnyH_take (i := 55) (v := ?_) rfl (by kernel_rfl) (by kernel_rfl) (by kernel_rfl) (fun _ _ _ h => h) (Or.inl ⟨by rfl, ?_⟩) (by assumption) ?_
  rotate_left 1
  · (intro w hSw; (try dsimp only at hSw); go_simp <;> (with_reducible rfl))
  try simp only [Act.put, List.getElem_toArray, List.getElem_cons_succ, List.getElem_cons_zero, List.setIfInBounds_toArray, List.set_cons_zero, List.set_cons_succ]
  refine wpAnyH_take (i := 56) (v := ?_) rfl (by kernel_rfl) (by kernel_rfl) (by kernel_rfl) (fun _ _ _ h => h) (Or.inl ⟨by rfl, ?_⟩) (by assumption) ?_
  rotate_left 1
  · (intro w hSw; (try dsimp only at hSw); go_simp <;> (with_reducible rfl))
  try simp only [Act.put, List.getElem_toArray, List.getElem_cons_succ, List.getElem_cons_zero, List.setIfInBounds_toArray, List.set_cons_zero, List.set_cons_succ]
  refine wpAnyH_take (i := 58) (v := ?_) rfl (by kernel_rfl) (by kernel_rfl) (by kernel_rfl) (fun _ _ _ h => h) (Or.inl ⟨by rfl, ?_⟩) (by assumption) ?_
  rotate_left 1
  · (intro w hSw; (try dsimp only at hSw); go_simp <;> (with_reducible rfl))
  try simp only [Act.put, List.getElem_toArray, List.getElem_cons_succ, List.getElem_cons_zero, List.setIfInBounds_toArray, List.set_cons_zero, List.set_cons_succ]
  refine wpAnyH_take (i := 59) (v := ?_) rfl (by kernel_rfl) (by kernel_rfl) (by kernel_rfl) (fun _ _ _ h => h) (Or.inl ⟨by rfl, ?_⟩) (by assumption) ?_
  rotate_left 1
  · (intro w hSw; (try dsimp only at hSw); go_simp <;> (with_reducible rfl))
  try simp only [Act.put, List.getElem_toArray, List.getElem_cons_succ, List.getElem_cons_zero, List.setIfInBounds_toArray, List.set_cons_zero, List.set_cons_succ]
  refine wpAnyH_take (i := 60) (v := ?_) rfl (by kernel_rfl) (by kernel_rfl) (by kernel_rfl) (fun _ _ _ h => h) (Or.inl ⟨by rfl, ?_⟩) (by assumption) ?_
  rotate_left 1
  · (intro w hSw; (try dsimp only at hSw); go_simp <;> (with_reducible rfl))
  try simp only [Act.put, List.getElem_toArray, List.getElem_cons_succ, List.getElem_cons_zero, List.setIfInBounds_toArray, List.set_cons_zero, List.set_cons_succ]
  refine wpAnyH_ready (rs := [57]) (by kernel_rfl) (by simp) ?_
  refine AllReadyH.cons rfl (fun K hK => ?_) AllReadyH.nil
  go_simp
  refine (heldRow (W := U5) hB.out ((CH.out _ (Below.more BW (by assumption)) (HB.out.below HT.out (by assumption)))) (by assumption)).mono ?_
  rintro e w'' ⟨⟨p3, c3, rfl, hc3, hl3⟩, hb, hw⟩
  have L3 := Lib.hid hl3
  clear hl3
  (try go_wp2_with fail)
  refine hK.out _ _ hw (fun hH11 => ?_)
  clear hK hH10 hb
  try simp only [Act.put, List.getElem_toArray, List.getElem_cons_succ, List.getElem_cons_zero, List.setIfInBounds_toArray, List.set_cons_zero, List.set_cons_succ]
  refine wpAnyH_ready (rs := [61]) (by kernel_rfl) (by simp) ?_
  refine AllReadyH.cons rfl (fun K hK => ?_) AllReadyH.nil
  go_simp
  refine (heldRow (W := U5) hB.out ((CHR.out _ (Below.more BW (by assumption)))) (by assumption)).mono ?_
  rintro e w'' ⟨⟨p4, c4, rfl, hc4, hl4⟩, hb, hw⟩
  replace L3 := Lib.hid (L3.out.below hb)
  have L4 := Lib.hid hl4
  clear hl4
  (try go_wp2_with fail)
  refine hK.out _ _ hw (fun hH12 => ?_)
  clear hK hH11 hb
  try simp only [Act.put, List.getElem_toArray, List.getElem_cons_succ, List.getElem_cons_zero, List.setIfInBounds_toArray, List.set_cons_zero, List.set_cons_succ]
  refine wpAnyH_ready (rs := [62]) (by kernel_rfl) (by simp) ?_
  refine AllReadyH.cons rfl (fun K hK => ?_) AllReadyH.nil
  go_simp
  refine (held (W := U5) hB.out (same_row _ _ _ _ N _ hN L3.out L4.out) (by assumption)).mono ?_
  rintro e w'' ⟨rfl, hb, hw⟩
  replace L3 := Lib.hid (L3.out.below hb)
  replace L4 := Lib.hid (L4.out.below hb)
  (try go_wp2_with fail)
  refine hK.out _ _ hw (fun hH13 => ?_)
  clear hK hH12 hb
  try simp only [Act.put, List.getElem_toArray, List.getElem_cons_succ, List.getElem_cons_zero, List.setIfInBounds_toArray, List.set_cons_zero, List.set_cons_succ]
  refine wpAnyH_take (i := 63) (v := ?_) rfl (by kernel_rfl) (by kernel_rfl) (by kernel_rfl) (fun _ _ _ h => h) (Or.inl ⟨by rfl, ?_⟩) (by assumption) ?_
  rotate_left 1
  · (intro w hSw; (try dsimp only at hSw); go_simp <;> (with_reducible rfl))
  try simp only [Act.put, List.getElem_toArray, List.getElem_cons_succ, List.getElem_cons_zero, List.setIfInBounds_toArray, List.set_cons_zero, List.set_cons_succ]
  refine wpAnyH_take (i := 64) (v := ?_) rfl (by kernel_rfl) (by kernel_rfl) (by kernel_rfl) (fun _ _ _ h => h) (Or.inl ⟨by rfl, ?_⟩) (by assumption) ?_
  rotate_left 1
  · (intro w hSw; (try dsimp only at hSw); go_simp <;> (with_reducible rfl))
  try simp only [Act.put, List.getElem_toArray, List.getElem_cons_succ, List.getElem_cons_zero, List.setIfInBounds_toArray, List.set_cons_zero, List.set_cons_succ]
  refine wpAnyH_done (by kernel_rfl) ?_ _
  refine NoPanic.normal ?_
  have b30 := hw
  clear hw
  go_wp2_with fail
  go_ret
  exact ⟨ret_bool (by first | rfl | simp [*]), Below.more BW b30⟩
theorem tells6_any (H : BookC G) (p : Option Addr) (c : Nat) (ls : List Ln) (a s n d : List UInt8) (w : World) (hc : ls.length ≤ c) (hl : ls.length ≤ 4611686018427387904) (h : Lns w p ls) (hg : G w) :
    Calls Tryz.prog 3 #[.slice p ls.length c, .agg #[.string ⟨a.toArray⟩, .string ⟨s.toArray⟩, .string ⟨n.toArray⟩, .string ⟨d.toArray⟩]] w (GiveB w true) := by
  have c1 := fun v (hv : Below w.heap.size w v) => rbsmall_any p c ls v hc hl (h.below hv)
  have c2 := fun v => small_one a s n d v
  cases h1 : smB ls with
  | false => rw [h1] at c1; exact tells6_b H p c ls a s n d w hg (Lib.hid c1)
  | true =>
    rw [h1] at c1
    cases h2 : smB [((a, s), (n, d))] with
    | false => rw [h2] at c2; exact tells6_l H p c ls a s n d w hg (Lib.hid c1) (Lib.hid c2)
    | true =>
      rw [h2] at c2
      obtain ⟨hs, h40⟩ := smB_iff.1 h1
      have hx := small_of_one h2
      have z : ∀ k, 100 ≤ k → ∀ x ∈ ls, SzK k x := fun k hk x hx => shL_szk (hs x hx) hk
      have zx : ∀ k, 100 ≤ k → SzK k ((a, s), (n, d)) := fun k hk => shL_szk hx hk
      have zL : ∀ x ∈ ls, SzL x := fun x hx => (z 100 (by decide) x hx).szL (by decide)
      have hla := (zx 100 (by decide)).1.1
      have hls := (zx 100 (by decide)).1.2
      have hla : a.length ≤ 4611686018427387904 := hla
      have hls : s.length ≤ 4611686018427387904 := hls
      have hadd := add_len ls ((a, s), (n, d))
      have hhold : (holdB ls s).length ≤ ls.length := by unfold holdB; split; exact List.length_filter_le _ _; exact Nat.zero_le _
      have ht : (ls.length + 1) * (100 + 1) ≤ 9000 := by omega
      exact tells6_main H p c ls a s n d (addB ls ((a, s), (n, d))).1 (holdB ls s) (by omega) (by omega) w hg (Lib.hid c1) (Lib.hid c2)
        (Lib.hid fun v hv hgv => H.add p c ls a s n d v hc (by omega) (z 1000 (by decide)) (zx 1000 (by decide)) (h.below hv) hgv)
        (Lib.hid fun v hv => rbadd_any p c ls a s n d v hc (by omega) (z 4000 (by decide)) (zx 4000 (by decide)) (h.below hv))
        (Lib.hid fun v hv hgv => H.may p c ls v hc (by omega) (z 1000 (by decide)) (h.below hv) hgv)
        (Lib.hid fun v hv => rbmay_any p c ls v hc (by omega) zL (h.below hv))
        (Lib.hid fun v hv hgv => H.name ⟨a.toArray⟩ v (by rw [size_of]; exact hla) hgv)
        (Lib.hid fun v hv => calm (rbname_any ⟨a.toArray⟩ v (by rw [size_of]; exact hla)))
        (Lib.hid fun v hv hgv => H.get p c ls a s v hc (by omega) (z 1000 (by decide)) hla hls (h.below hv) hgv)
        (Lib.hid fun v hv => rbget_any p c ls a s v hc (by omega) zL (h.below hv))
        (Lib.hid fun v hv hgv => H.total p c ls s 100 v hc (by omega) (z 100 (by decide)) ht hls (h.below hv) hgv)
        (Lib.hid fun v hv => rbtotal_any p c ls s v hc (by omega) (z 100 (by decide)) ht (h.below hv))
        (Lib.hid fun v hv hgv => H.holders p c ls s v hc (by omega) (z 1000 (by decide)) hls (h.below hv) hgv)
        (Lib.hid fun v hv => (rbholders_any p c ls s v hc (by omega) zL (h.below hv)).mono fun _ _ k => k.row)
end Go.Proofs.YtemnimbedmkagaaGreatDoor
