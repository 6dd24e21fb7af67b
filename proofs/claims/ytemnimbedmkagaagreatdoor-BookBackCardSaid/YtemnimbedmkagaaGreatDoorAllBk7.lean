/- A line more: the ways of the program's Add. -/
import Derived.Test.YtemnimbedmkagaaGreatDoorAllBk5
import Derived.Test.YtemnimbedmkagaaGreatDoorAllBk6
namespace Go.Proofs.YtemnimbedmkagaaGreatDoor
open Go.RowKit
set_option linter.unusedSimpArgs false
set_option linter.unusedVariables false
/-- A line's block, that may be written. -/
structure F4 (b : Nat) (x y z t : Value) (v : World) : Prop where
  c0 : v.cell? ⟨b, 0, none⟩ = some x
  c1 : v.cell? ⟨b, 1, none⟩ = some y
  c2 : v.cell? ⟨b, 2, none⟩ = some z
  c3 : v.cell? ⟨b, 3, none⟩ = some t
  f2 : v.frozen? ⟨b, 2, none⟩ = false
  f3 : v.frozen? ⟨b, 3, none⟩ = false
  lt : b < v.heap.size
theorem F4.below {b : Nat} {x y z t : Value} {v v' : World} (h : F4 b x y z t v) (hb : Below v.heap.size v v') : F4 b x y z t v' :=
  ⟨(hb.cell (p := ⟨b, 0, none⟩) h.lt).trans h.c0, (hb.cell (p := ⟨b, 1, none⟩) h.lt).trans h.c1, (hb.cell (p := ⟨b, 2, none⟩) h.lt).trans h.c2, (hb.cell (p := ⟨b, 3, none⟩) h.lt).trans h.c3, (hb.frozen (p := ⟨b, 2, none⟩) h.lt).trans h.f2, (hb.frozen (p := ⟨b, 3, none⟩) h.lt).trans h.f3, Nat.lt_of_lt_of_le h.lt hb.size⟩
theorem F4.drew {b : Nat} {x y z t : Value} {v : World} (h : F4 b x y z t v) : F4 b x y z t v.drew := ⟨h.c0, h.c1, h.c2, h.c3, h.f2, h.f3, h.lt⟩
theorem f4_new (w : World) (x y z t : Value) (u : TypeId) : F4 w.heap.size x y z t (w.alloc (.cells #[x, y, z, t] u)) :=
  ⟨cell_new _ _ _ _ rfl 0, cell_new _ _ _ _ rfl 1, cell_new _ _ _ _ rfl 2, cell_new _ _ _ _ rfl 3, by rw [frozen?_alloc_cells]; simp [World.frozen?], by rw [frozen?_alloc_cells]; simp [World.frozen?], by simp⟩
theorem F4.rule {b : Nat} {x y z t : Value} {W : World} (h : F4 b x y z t W) : (∀ v, Below W.heap.size W v → v.cell? ⟨b, 0, none⟩ = some x) ∧ (∀ v, Below W.heap.size W v → v.cell? ⟨b, 1, none⟩ = some y) ∧ (∀ v, Below W.heap.size W v → v.cell? ⟨b, 2, none⟩ = some z) ∧ (∀ v, Below W.heap.size W v → v.cell? ⟨b, 3, none⟩ = some t) :=
  ⟨fun _ hb => (h.below hb).c0, fun _ hb => (h.below hb).c1, fun _ hb => (h.below hb).c2, fun _ hb => (h.below hb).c3⟩
theorem f4_put {b : Nat} {x y z t z' t' : Value} {v : World} (h : F4 b x y z t v) : F4 b x y z' t' ((v.setCell ⟨b, 2, none⟩ z').setCell ⟨b, 3, none⟩ t') := by
  have e3 : (v.setCell ⟨b, 2, none⟩ z').cell? ⟨b, 3, none⟩ = some t := by rw [cell?_setCell_ne _ _ _ _ _ (by omega)]; exact h.c3
  refine ⟨?_, ?_, ?_, ?_, ?_, ?_, ?_⟩
  · rw [cell?_setCell_ne _ _ _ _ _ (by omega), cell?_setCell_ne _ _ _ _ _ (by omega)]; exact h.c0
  · rw [cell?_setCell_ne _ _ _ _ _ (by omega), cell?_setCell_ne _ _ _ _ _ (by omega)]; exact h.c1
  · rw [cell?_setCell_ne _ _ _ _ _ (by omega), World.cell?_setCell_same' _ _ _ (by rw [h.c2]; rfl)]
  · rw [World.cell?_setCell_same' _ _ _ (by rw [e3]; rfl)]
  · simpa using h.f2
  · simpa using h.f3
  · simpa using h.lt
theorem below_put {B b : Nat} {a w : World} (h : Below B a w) (hb : B ≤ b) (x y : Value) : Below B a ((w.setCell ⟨b, 2, none⟩ x).setCell ⟨b, 3, none⟩ y) := Below.setCell (Below.setCell h hb _) hb _
/-- Two rows, or three, one behind the other. -/
theorem bcat2 (V : World) (p1 p2 : Option Addr) (c1 c2 n1 n2 : Nat) (l1 l2 : List Ln) (t : TypeId) (h1 : l1.length = n1) (h2 : l2.length = n2) (L1 : Lns V p1 l1) (L2 : Lns V p2 l2) (s1 : n1 ≤ 1000000) (s2 : n2 ≤ 1000000) :
    Calls Tryz.prog 32 #[.slice (some ⟨V.heap.size, 0, none⟩) 2 2] (V.alloc (.cells #[.slice p1 n1 c1, .slice p2 n2 c2] t)) fun e w' => (∃ p c, e = .returned (.slice p (l1 ++ l2).length c) ∧ (l1 ++ l2).length ≤ c ∧ Lns w' p (l1 ++ l2)) ∧ Below V.heap.size V w' := by
  subst h1 h2
  have hb : Below V.heap.size V (V.alloc (.cells #[.slice p1 l1.length c1, .slice p2 l2.length c2] t)) := Below.step _ (Below.refl _ _)
  have k := bconcat_any V.heap.size [((p1, c1), l1), ((p2, c2), l2)] (V.alloc (.cells #[.slice p1 l1.length c1, .slice p2 l2.length c2] t)) (by simp) (by simp) (fun j x hx => by
    match j, hx with
    | 0, hx => obtain rfl := Option.some.inj hx; exact cell_new _ _ _ _ rfl 0
    | 1, hx => obtain rfl := Option.some.inj hx; exact cell_new _ _ _ _ rfl 1
    | j + 2, hx => cases hx) (fun x hx => by
    rcases List.mem_cons.1 hx with rfl | hx
    · exact L1.below hb
    · obtain rfl := List.mem_singleton.1 hx; exact L2.below hb) (fun x hx => by
    rcases List.mem_cons.1 hx with rfl | hx
    · exact s1
    · obtain rfl := List.mem_singleton.1 hx; exact s2)
  have e : ptL [((p1, c1), l1), ((p2, c2), l2)] = l1 ++ l2 := by show l1 ++ (l2 ++ []) = _; rw [List.append_nil]
  rw [e] at k
  exact k.mono fun _ _ ⟨he, h⟩ => ⟨he, Below.more hb h⟩
theorem bcat3 (V : World) (p1 p2 : Option Addr) (c1 c2 n1 n2 : Nat) (l1 l2 : List Ln) (a s n d : List UInt8) (t u : TypeId) (h1 : l1.length = n1) (h2 : l2.length = n2) (L1 : Lns V p1 l1) (L2 : Lns V p2 l2) (s1 : n1 ≤ 1000000) (s2 : n2 ≤ 1000000) :
    Calls Tryz.prog 32 #[.slice (some ⟨V.heap.size + 1, 0, none⟩) 3 3] ((V.alloc (.cells #[.string ⟨a.toArray⟩, .string ⟨s.toArray⟩, .string ⟨n.toArray⟩, .string ⟨d.toArray⟩] u)).alloc (.cells #[.slice p1 n1 c1, .slice (some ⟨V.heap.size, 0, none⟩) 1 1, .slice p2 n2 c2] t)) fun e w' => (∃ p c, e = .returned (.slice p (l1 ++ ([((a, s), (n, d))] ++ l2)).length c) ∧ (l1 ++ ([((a, s), (n, d))] ++ l2)).length ≤ c ∧ Lns w' p (l1 ++ ([((a, s), (n, d))] ++ l2))) ∧ Below V.heap.size V w' := by
  subst h1 h2
  have hA : Below V.heap.size V (V.alloc (.cells #[.string ⟨a.toArray⟩, .string ⟨s.toArray⟩, .string ⟨n.toArray⟩, .string ⟨d.toArray⟩] u)) := Below.step _ (Below.refl _ _)
  have LA := lns_one V a s n d u
  have hs : (V.alloc (.cells #[.string ⟨a.toArray⟩, .string ⟨s.toArray⟩, .string ⟨n.toArray⟩, .string ⟨d.toArray⟩] u)).heap.size = V.heap.size + 1 := by simp
  have L1 := L1.below hA
  have L2 := L2.below hA
  generalize V.alloc (.cells #[.string ⟨a.toArray⟩, .string ⟨s.toArray⟩, .string ⟨n.toArray⟩, .string ⟨d.toArray⟩] u) = A at *
  rw [← hs]
  have hb : Below A.heap.size A (A.alloc (.cells #[.slice p1 l1.length c1, .slice (some ⟨V.heap.size, 0, none⟩) 1 1, .slice p2 l2.length c2] t)) := Below.step _ (Below.refl _ _)
  have k := bconcat_any A.heap.size [((p1, c1), l1), ((some ⟨V.heap.size, 0, none⟩, 1), [((a, s), (n, d))]), ((p2, c2), l2)] (A.alloc (.cells #[.slice p1 l1.length c1, .slice (some ⟨V.heap.size, 0, none⟩) 1 1, .slice p2 l2.length c2] t)) (by simp) (by simp) (fun j x hx => by
    match j, hx with
    | 0, hx => obtain rfl := Option.some.inj hx; exact cell_new _ _ _ _ rfl 0
    | 1, hx => obtain rfl := Option.some.inj hx; exact cell_new _ _ _ _ rfl 1
    | 2, hx => obtain rfl := Option.some.inj hx; exact cell_new _ _ _ _ rfl 2
    | j + 3, hx => cases hx) (fun x hx => by
    rcases List.mem_cons.1 hx with rfl | hx
    · exact L1.below hb
    · rcases List.mem_cons.1 hx with rfl | hx
      · exact LA.below hb
      · obtain rfl := List.mem_singleton.1 hx; exact L2.below hb) (fun x hx => by
    rcases List.mem_cons.1 hx with rfl | hx
    · exact s1
    · rcases List.mem_cons.1 hx with rfl | hx
      · exact (by decide : 1 ≤ 1000000)
      · obtain rfl := List.mem_singleton.1 hx; exact s2)
  have e : ptL [((p1, c1), l1), ((some ⟨V.heap.size, 0, none⟩, 1), [((a, s), (n, d))]), ((p2, c2), l2)] = l1 ++ ([((a, s), (n, d))] ++ l2) := by show l1 ++ ([((a, s), (n, d))] ++ (l2 ++ [])) = _; rw [List.append_nil]
  rw [e] at k
  exact k.mono fun _ _ ⟨he, h⟩ => ⟨he, Below.more hA (Below.more hb h)⟩
set_option maxRecDepth 100000 in
set_option maxHeartbeats 4000000 in
theorem ba_may (p : Option Addr) (c : Nat) (ls : List Ln) (a s n d : List UInt8) (w : World)
    (CM : Hid (∀ V, Below w.heap.size w V → Calls Tryz.prog 12 #[.slice p ls.length c] V (GiveB V false))) :
    Calls Tryz.prog 9 #[.slice p ls.length c, .agg #[.string ⟨a.toArray⟩, .string ⟨s.toArray⟩, .string ⟨n.toArray⟩, .string ⟨d.toArray⟩]] w (GiveLB w ([], false)) := by
  go_enter Tryz.func9, Tryz.ntmps9
  go_wp2_with fail
  obtain ⟨U, hU⟩ : ∃ U, w.alloc (.cells #[.string ⟨a.toArray⟩, .string ⟨s.toArray⟩, .string ⟨n.toArray⟩, .string ⟨d.toArray⟩] 27) = U := ⟨_, rfl⟩
  rw [hU]
  have hz : F4 w.heap.size (.string ⟨a.toArray⟩) (.string ⟨s.toArray⟩) (.string ⟨n.toArray⟩) (.string ⟨d.toArray⟩) U := hU ▸ f4_new _ _ _ _ _ _
  have BW : Below w.heap.size w U := hU ▸ Below.step _ (Below.refl _ _)
  clear hU
  obtain ⟨r0, r1, r2, r3⟩ := hz.rule
  have b0 := Below.refl U.heap.size U
  go_wp2_with fail
  refine (CM.out _ BW).mono ?_
  rintro e w1 ⟨rfl, b⟩
  have b1 := Below.more b0 b
  clear b
  go_wp2_with fail
  go_ret2
  exact ⟨⟨none, 0, rfl, Nat.le_refl _, Lns.nil _ _⟩, Below.more BW b1⟩
set_option maxRecDepth 100000 in
set_option maxHeartbeats 4000000 in
theorem ba_named (p : Option Addr) (c : Nat) (ls : List Ln) (a s n d : List UInt8) (w : World)
    (CM : Hid (∀ V, Below w.heap.size w V → Calls Tryz.prog 12 #[.slice p ls.length c] V (GiveB V true)))
    (CN : Hid (∀ V, Below w.heap.size w V → Calls Tryz.prog 27 #[.agg #[.string ⟨a.toArray⟩, .string ⟨s.toArray⟩, .string ⟨n.toArray⟩, .string ⟨d.toArray⟩]] V (GiveB V false))) :
    Calls Tryz.prog 9 #[.slice p ls.length c, .agg #[.string ⟨a.toArray⟩, .string ⟨s.toArray⟩, .string ⟨n.toArray⟩, .string ⟨d.toArray⟩]] w (GiveLB w ([], false)) := by
  go_enter Tryz.func9, Tryz.ntmps9
  go_wp2_with fail
  obtain ⟨U, hU⟩ : ∃ U, w.alloc (.cells #[.string ⟨a.toArray⟩, .string ⟨s.toArray⟩, .string ⟨n.toArray⟩, .string ⟨d.toArray⟩] 27) = U := ⟨_, rfl⟩
  rw [hU]
  have hz : F4 w.heap.size (.string ⟨a.toArray⟩) (.string ⟨s.toArray⟩) (.string ⟨n.toArray⟩) (.string ⟨d.toArray⟩) U := hU ▸ f4_new _ _ _ _ _ _
  have BW : Below w.heap.size w U := hU ▸ Below.step _ (Below.refl _ _)
  clear hU
  obtain ⟨r0, r1, r2, r3⟩ := hz.rule
  have b0 := Below.refl U.heap.size U
  go_wp2_with fail
  refine (CM.out _ BW).mono ?_
  rintro e w1 ⟨rfl, b⟩
  have b1 := Below.more b0 b
  clear b
  go_wp2_with fail
  refine (CN.out _ (Below.more BW b1)).mono ?_
  rintro e w2 ⟨rfl, b⟩
  have b2 := Below.more b1 b
  clear b
  go_wp2_with fail
  go_ret2
  exact ⟨⟨none, 0, rfl, Nat.le_refl _, Lns.nil _ _⟩, Below.more BW b2⟩
set_option maxRecDepth 100000 in
set_option maxHeartbeats 4000000 in
theorem ba_rat (p : Option Addr) (c : Nat) (ls : List Ln) (a s n d : List UInt8) (w : World)
    (CM : Hid (∀ V, Below w.heap.size w V → Calls Tryz.prog 12 #[.slice p ls.length c] V (GiveB V true)))
    (CN : Hid (∀ V, Below w.heap.size w V → Calls Tryz.prog 27 #[.agg #[.string ⟨a.toArray⟩, .string ⟨s.toArray⟩, .string ⟨n.toArray⟩, .string ⟨d.toArray⟩]] V (GiveB V true)))
    (CR : Hid (∀ V, Below w.heap.size w V → Calls Tryz.prog 28 #[.agg #[.string ⟨n.toArray⟩, .string ⟨d.toArray⟩]] V (GiveB V false))) :
    Calls Tryz.prog 9 #[.slice p ls.length c, .agg #[.string ⟨a.toArray⟩, .string ⟨s.toArray⟩, .string ⟨n.toArray⟩, .string ⟨d.toArray⟩]] w (GiveLB w ([], false)) := by
  go_enter Tryz.func9, Tryz.ntmps9
  go_wp2_with fail
  obtain ⟨U, hU⟩ : ∃ U, w.alloc (.cells #[.string ⟨a.toArray⟩, .string ⟨s.toArray⟩, .string ⟨n.toArray⟩, .string ⟨d.toArray⟩] 27) = U := ⟨_, rfl⟩
  rw [hU]
  have hz : F4 w.heap.size (.string ⟨a.toArray⟩) (.string ⟨s.toArray⟩) (.string ⟨n.toArray⟩) (.string ⟨d.toArray⟩) U := hU ▸ f4_new _ _ _ _ _ _
  have BW : Below w.heap.size w U := hU ▸ Below.step _ (Below.refl _ _)
  clear hU
  obtain ⟨r0, r1, r2, r3⟩ := hz.rule
  have b0 := Below.refl U.heap.size U
  go_wp2_with fail
  refine (CM.out _ BW).mono ?_
  rintro e w1 ⟨rfl, b⟩
  have b1 := Below.more b0 b
  clear b
  go_wp2_with fail
  refine (CN.out _ (Below.more BW b1)).mono ?_
  rintro e w2 ⟨rfl, b⟩
  have b2 := Below.more b1 b
  clear b
  go_wp2_with fail
  refine (CR.out _ (Below.more BW b2)).mono ?_
  rintro e w3 ⟨rfl, b⟩
  have b3 := Below.more b2 b
  clear b
  go_wp2_with fail
  go_ret2
  exact ⟨⟨none, 0, rfl, Nat.le_refl _, Lns.nil _ _⟩, Below.more BW b3⟩
theorem lns_dropI {w : World} {b o : Nat} {ls : List Ln} (h : Lns w (some ⟨b, o, none⟩) ls) (c i : Nat) (hc : ls.length ≤ c) : Lns w (if c = i then some ⟨b, o, none⟩ else some ⟨b, o + i * 4, none⟩) (ls.drop i) := by
  by_cases e : c = i
  · rw [if_pos e, List.drop_of_length_le (by omega)]; exact Lns.nil _ _
  · rw [if_neg e]; exact h.drops i
theorem held4 {P : Program} {f : FuncId} {args : Array Value} {B b : Nat} {u W : World} {x y z t v : Value} (c : Calls P f args u fun e w' => e = .returned v ∧ Below u.heap.size u w') (h : Below B W u) (hz : F4 b x y z t u) (hB : B ≤ W.heap.size) :
    Calls P f args u fun e w' => e = .returned v ∧ Below B W w' ∧ F4 b x y z t w' := c.mono fun _ _ ⟨he, hb⟩ => ⟨he, h.trans (hb.mono (Nat.le_trans hB h.size)), hz.below hb⟩
set_option maxRecDepth 100000 in
set_option maxHeartbeats 4000000 in
theorem ba_A0 (p : Option Addr) (c : Nat) (a s n d : List UInt8) (w : World) (R : List Ln) (hR : Hid (([] : List Ln) ++ ([] : List Ln) = R))
    (CM : Hid (∀ V, Below w.heap.size w V → Calls Tryz.prog 12 #[.slice p 0 c] V (GiveB V true)))
    (CN : Hid (∀ V, Below w.heap.size w V → Calls Tryz.prog 27 #[.agg #[.string ⟨a.toArray⟩, .string ⟨s.toArray⟩, .string ⟨n.toArray⟩, .string ⟨d.toArray⟩]] V (GiveB V true)))
    (CR : Hid (∀ V, Below w.heap.size w V → Calls Tryz.prog 28 #[.agg #[.string ⟨n.toArray⟩, .string ⟨d.toArray⟩]] V (GiveB V true)))
    (CF : Hid (∀ V, Below w.heap.size w V → Calls Tryz.prog 29 #[.slice p 0 c, .agg #[.string ⟨a.toArray⟩, .string ⟨s.toArray⟩, .string ⟨n.toArray⟩, .string ⟨d.toArray⟩]] V (GivePB V (0 : Nat) false)))
    (CS : Hid (∀ V, Calls Tryz.prog 31 #[.agg #[.string ⟨n.toArray⟩, .string ⟨d.toArray⟩]] V (GiveI V 0))) :
    Calls Tryz.prog 9 #[.slice p 0 c, .agg #[.string ⟨a.toArray⟩, .string ⟨s.toArray⟩, .string ⟨n.toArray⟩, .string ⟨d.toArray⟩]] w (GiveLB w (R, true)) := by
  go_enter Tryz.func9, Tryz.ntmps9
  go_wp2_with fail
  obtain ⟨U, hU⟩ : ∃ U, w.alloc (.cells #[.string ⟨a.toArray⟩, .string ⟨s.toArray⟩, .string ⟨n.toArray⟩, .string ⟨d.toArray⟩] 27) = U := ⟨_, rfl⟩
  rw [hU]
  have hz : F4 w.heap.size (.string ⟨a.toArray⟩) (.string ⟨s.toArray⟩) (.string ⟨n.toArray⟩) (.string ⟨d.toArray⟩) U := hU ▸ f4_new _ _ _ _ _ _
  have BW : Below w.heap.size w U := hU ▸ Below.step _ (Below.refl _ _)
  clear hU
  obtain ⟨r0, r1, r2, r3⟩ := hz.rule
  have b0 := Below.refl U.heap.size U
  go_wp2_with fail
  refine (CM.out _ BW).mono ?_
  rintro e w1 ⟨rfl, b⟩
  have b1 := Below.more b0 b
  clear b
  go_wp2_with fail
  refine (CN.out _ (Below.more BW b1)).mono ?_
  rintro e w2 ⟨rfl, b⟩
  have b2 := Below.more b1 b
  clear b
  go_wp2_with fail
  refine (CR.out _ (Below.more BW b2)).mono ?_
  rintro e w3 ⟨rfl, b⟩
  have b3 := Below.more b2 b
  clear b
  go_wp2_with fail
  refine (CF.out _ (Below.more BW b3)).mono ?_
  rintro e w4 ⟨rfl, b⟩
  have b4 := Below.more b3 b
  have hz4 := hz.below b4
  have BV := Below.more BW b4
  clear b b0 b1 b2 b3 b4 r0 r1 r2 r3 hz BW
  obtain ⟨r0, r1, r2, r3⟩ := hz4.rule
  have b5 := Below.refl w4.heap.size w4
  have hB := Lib.hid (Nat.le_refl w4.heap.size)
  go_wp2_with fail
  refine wp_region_noPanic ?_
  refine wp_region_held_drew (S := fun w' => Below w4.heap.size w4 w') (by kernel_rfl) (b5.drew) (fun hH0 => ?_)
  refine wpAnyH_take (i := 0) (v := ?_) rfl (by kernel_rfl) (by kernel_rfl) (by kernel_rfl) (fun _ _ _ h => h) (Or.inl ⟨by rfl, ?_⟩) (by assumption) ?_
  rotate_left 1
  · (intro w hSw; (try dsimp only at hSw); go_simp <;> (with_reducible rfl))
  try simp only [Act.put, List.getElem_toArray, List.getElem_cons_succ, List.getElem_cons_zero, List.setIfInBounds_toArray, List.set_cons_zero, List.set_cons_succ]
  refine wpAnyH_take (i := 1) (v := ?_) rfl (by kernel_rfl) (by kernel_rfl) (by kernel_rfl) (fun _ _ _ h => h) (Or.inl ⟨by rfl, ?_⟩) (by assumption) ?_
  rotate_left 1
  · (intro w hSw; (try dsimp only at hSw); go_simp <;> (with_reducible rfl))
  try simp only [Act.put, List.getElem_toArray, List.getElem_cons_succ, List.getElem_cons_zero, List.setIfInBounds_toArray, List.set_cons_zero, List.set_cons_succ]
  refine wpAnyH_take (i := 2) (v := ?_) rfl (by kernel_rfl) (by kernel_rfl) (by kernel_rfl) (fun _ _ _ h => h) (Or.inl ⟨by rfl, ?_⟩) (by assumption) ?_
  rotate_left 1
  · (intro w hSw; (try dsimp only at hSw); go_simp <;> (with_reducible rfl))
  try simp only [Act.put, List.getElem_toArray, List.getElem_cons_succ, List.getElem_cons_zero, List.setIfInBounds_toArray, List.set_cons_zero, List.set_cons_succ]
  refine wpAnyH_take (i := 3) (v := ?_) rfl (by kernel_rfl) (by kernel_rfl) (by kernel_rfl) (fun _ _ _ h => h) (Or.inl ⟨by rfl, ?_⟩) (by assumption) ?_
  rotate_left 1
  · (intro w hSw; (try dsimp only at hSw); go_simp <;> (with_reducible rfl))
  try simp only [Act.put, List.getElem_toArray, List.getElem_cons_succ, List.getElem_cons_zero, List.setIfInBounds_toArray, List.set_cons_zero, List.set_cons_succ]
  refine wpAnyH_take (i := 4) (v := ?_) rfl (by kernel_rfl) (by kernel_rfl) (by kernel_rfl) (fun _ _ _ h => h) (Or.inl ⟨by rfl, ?_⟩) (by assumption) ?_
  rotate_left 1
  · (intro w hSw; (try dsimp only at hSw); go_simp <;> (with_reducible rfl))
  try simp only [Act.put, List.getElem_toArray, List.getElem_cons_succ, List.getElem_cons_zero, List.setIfInBounds_toArray, List.set_cons_zero, List.set_cons_succ]
  refine wpAnyH_take (i := 5) (v := ?_) rfl (by kernel_rfl) (by kernel_rfl) (by kernel_rfl) (fun _ _ _ h => h) (Or.inl ⟨by rfl, ?_⟩) (by assumption) ?_
  rotate_left 1
  · (intro w hSw; (try dsimp only at hSw); go_simp <;> (with_reducible rfl))
  try simp only [Act.put, List.getElem_toArray, List.getElem_cons_succ, List.getElem_cons_zero, List.setIfInBounds_toArray, List.set_cons_zero, List.set_cons_succ]
  refine wpAnyH_take (i := 6) (v := ?_) rfl (by kernel_rfl) (by kernel_rfl) (by kernel_rfl) (fun _ _ _ h => h) (Or.inl ⟨by rfl, ?_⟩) (by assumption) ?_
  rotate_left 1
  · (intro w hSw; (try dsimp only at hSw); go_simp <;> (with_reducible rfl))
  try simp only [Act.put, List.getElem_toArray, List.getElem_cons_succ, List.getElem_cons_zero, List.setIfInBounds_toArray, List.set_cons_zero, List.set_cons_succ]
  refine wpAnyH_take (i := 7) (v := ?_) rfl (by kernel_rfl) (by kernel_rfl) (by kernel_rfl) (fun _ _ _ h => h) (Or.inl ⟨by rfl, ?_⟩) (by assumption) ?_
  rotate_left 1
  · (intro w hSw; (try dsimp only at hSw); go_simp <;> (with_reducible rfl))
  try simp only [Act.put, List.getElem_toArray, List.getElem_cons_succ, List.getElem_cons_zero, List.setIfInBounds_toArray, List.set_cons_zero, List.set_cons_succ]
  refine wpAnyH_done (by kernel_rfl) ?_ _
  refine NoPanic.normal ?_
  have b6 := hH0
  clear hH0
  go_wp2_with fail
  refine (CS.out _).mono ?_
  rintro e w8 ⟨rfl, b⟩
  have b8 := Below.more b6 b
  have B8 := Below.more BV b8
  clear b
  go_wp2_with fail
  refine (bcat2 _ _ _ _ _ 0 0 [] [] _ rfl rfl (Lns.nil _ _) (Lns.nil _ _) (by decide) (by decide)).mono ?_
  rintro e w9 ⟨⟨p', c', rfl, hc', hL⟩, b⟩
  rw [hR.out] at hc' hL ⊢
  have B9 := Below.more B8 b
  have HL := Lib.hid hL
  clear b hL
  go_wp2_with fail
  go_ret2
  exact ⟨⟨p', c', rfl, hc', HL.out⟩, B9⟩
set_option maxRecDepth 100000 in
set_option maxHeartbeats 4000000 in
theorem ba_A1 (p : Option Addr) (c : Nat) (a s n d : List UInt8) (w : World) (z : Int) (hz0 : ¬ z = 0) (R : List Ln) (hR : Hid (([] : List Ln) ++ ([((a, s), (n, d))] ++ ([] : List Ln)) = R))
    (CM : Hid (∀ V, Below w.heap.size w V → Calls Tryz.prog 12 #[.slice p 0 c] V (GiveB V true)))
    (CN : Hid (∀ V, Below w.heap.size w V → Calls Tryz.prog 27 #[.agg #[.string ⟨a.toArray⟩, .string ⟨s.toArray⟩, .string ⟨n.toArray⟩, .string ⟨d.toArray⟩]] V (GiveB V true)))
    (CR : Hid (∀ V, Below w.heap.size w V → Calls Tryz.prog 28 #[.agg #[.string ⟨n.toArray⟩, .string ⟨d.toArray⟩]] V (GiveB V true)))
    (CF : Hid (∀ V, Below w.heap.size w V → Calls Tryz.prog 29 #[.slice p 0 c, .agg #[.string ⟨a.toArray⟩, .string ⟨s.toArray⟩, .string ⟨n.toArray⟩, .string ⟨d.toArray⟩]] V (GivePB V (0 : Nat) false)))
    (CS : Hid (∀ V, Calls Tryz.prog 31 #[.agg #[.string ⟨n.toArray⟩, .string ⟨d.toArray⟩]] V (GiveI V z))) :
    Calls Tryz.prog 9 #[.slice p 0 c, .agg #[.string ⟨a.toArray⟩, .string ⟨s.toArray⟩, .string ⟨n.toArray⟩, .string ⟨d.toArray⟩]] w (GiveLB w (R, true)) := by
  have hzb : (z == 0) = false := beq_false_of_ne hz0
  go_enter Tryz.func9, Tryz.ntmps9
  go_wp2_with fail
  obtain ⟨U, hU⟩ : ∃ U, w.alloc (.cells #[.string ⟨a.toArray⟩, .string ⟨s.toArray⟩, .string ⟨n.toArray⟩, .string ⟨d.toArray⟩] 27) = U := ⟨_, rfl⟩
  rw [hU]
  have hz : F4 w.heap.size (.string ⟨a.toArray⟩) (.string ⟨s.toArray⟩) (.string ⟨n.toArray⟩) (.string ⟨d.toArray⟩) U := hU ▸ f4_new _ _ _ _ _ _
  have BW : Below w.heap.size w U := hU ▸ Below.step _ (Below.refl _ _)
  clear hU
  obtain ⟨r0, r1, r2, r3⟩ := hz.rule
  have b0 := Below.refl U.heap.size U
  go_wp2_with fail
  refine (CM.out _ BW).mono ?_
  rintro e w1 ⟨rfl, b⟩
  have b1 := Below.more b0 b
  clear b
  go_wp2_with fail
  refine (CN.out _ (Below.more BW b1)).mono ?_
  rintro e w2 ⟨rfl, b⟩
  have b2 := Below.more b1 b
  clear b
  go_wp2_with fail
  refine (CR.out _ (Below.more BW b2)).mono ?_
  rintro e w3 ⟨rfl, b⟩
  have b3 := Below.more b2 b
  clear b
  go_wp2_with fail
  refine (CF.out _ (Below.more BW b3)).mono ?_
  rintro e w4 ⟨rfl, b⟩
  have b4 := Below.more b3 b
  have hz4 := hz.below b4
  have BV := Below.more BW b4
  clear b b0 b1 b2 b3 b4 r0 r1 r2 r3 hz BW
  obtain ⟨r0, r1, r2, r3⟩ := hz4.rule
  have b5 := Below.refl w4.heap.size w4
  have hB := Lib.hid (Nat.le_refl w4.heap.size)
  go_wp2_with fail
  refine wp_region_noPanic ?_
  refine wp_region_held_drew (S := fun w' => Below w4.heap.size w4 w') (by kernel_rfl) (b5.drew) (fun hH0 => ?_)
  refine wpAnyH_take (i := 0) (v := ?_) rfl (by kernel_rfl) (by kernel_rfl) (by kernel_rfl) (fun _ _ _ h => h) (Or.inl ⟨by rfl, ?_⟩) (by assumption) ?_
  rotate_left 1
  · (intro w hSw; (try dsimp only at hSw); go_simp <;> (with_reducible rfl))
  try simp only [Act.put, List.getElem_toArray, List.getElem_cons_succ, List.getElem_cons_zero, List.setIfInBounds_toArray, List.set_cons_zero, List.set_cons_succ]
  refine wpAnyH_take (i := 1) (v := ?_) rfl (by kernel_rfl) (by kernel_rfl) (by kernel_rfl) (fun _ _ _ h => h) (Or.inl ⟨by rfl, ?_⟩) (by assumption) ?_
  rotate_left 1
  · (intro w hSw; (try dsimp only at hSw); go_simp <;> (with_reducible rfl))
  try simp only [Act.put, List.getElem_toArray, List.getElem_cons_succ, List.getElem_cons_zero, List.setIfInBounds_toArray, List.set_cons_zero, List.set_cons_succ]
  refine wpAnyH_take (i := 2) (v := ?_) rfl (by kernel_rfl) (by kernel_rfl) (by kernel_rfl) (fun _ _ _ h => h) (Or.inl ⟨by rfl, ?_⟩) (by assumption) ?_
  rotate_left 1
  · (intro w hSw; (try dsimp only at hSw); go_simp <;> (with_reducible rfl))
  try simp only [Act.put, List.getElem_toArray, List.getElem_cons_succ, List.getElem_cons_zero, List.setIfInBounds_toArray, List.set_cons_zero, List.set_cons_succ]
  refine wpAnyH_take (i := 3) (v := ?_) rfl (by kernel_rfl) (by kernel_rfl) (by kernel_rfl) (fun _ _ _ h => h) (Or.inl ⟨by rfl, ?_⟩) (by assumption) ?_
  rotate_left 1
  · (intro w hSw; (try dsimp only at hSw); go_simp <;> (with_reducible rfl))
  try simp only [Act.put, List.getElem_toArray, List.getElem_cons_succ, List.getElem_cons_zero, List.setIfInBounds_toArray, List.set_cons_zero, List.set_cons_succ]
  refine wpAnyH_take (i := 4) (v := ?_) rfl (by kernel_rfl) (by kernel_rfl) (by kernel_rfl) (fun _ _ _ h => h) (Or.inl ⟨by rfl, ?_⟩) (by assumption) ?_
  rotate_left 1
  · (intro w hSw; (try dsimp only at hSw); go_simp <;> (with_reducible rfl))
  try simp only [Act.put, List.getElem_toArray, List.getElem_cons_succ, List.getElem_cons_zero, List.setIfInBounds_toArray, List.set_cons_zero, List.set_cons_succ]
  refine wpAnyH_take (i := 5) (v := ?_) rfl (by kernel_rfl) (by kernel_rfl) (by kernel_rfl) (fun _ _ _ h => h) (Or.inl ⟨by rfl, ?_⟩) (by assumption) ?_
  rotate_left 1
  · (intro w hSw; (try dsimp only at hSw); go_simp <;> (with_reducible rfl))
  try simp only [Act.put, List.getElem_toArray, List.getElem_cons_succ, List.getElem_cons_zero, List.setIfInBounds_toArray, List.set_cons_zero, List.set_cons_succ]
  refine wpAnyH_take (i := 6) (v := ?_) rfl (by kernel_rfl) (by kernel_rfl) (by kernel_rfl) (fun _ _ _ h => h) (Or.inl ⟨by rfl, ?_⟩) (by assumption) ?_
  rotate_left 1
  · (intro w hSw; (try dsimp only at hSw); go_simp <;> (with_reducible rfl))
  try simp only [Act.put, List.getElem_toArray, List.getElem_cons_succ, List.getElem_cons_zero, List.setIfInBounds_toArray, List.set_cons_zero, List.set_cons_succ]
  refine wpAnyH_take (i := 7) (v := ?_) rfl (by kernel_rfl) (by kernel_rfl) (by kernel_rfl) (fun _ _ _ h => h) (Or.inl ⟨by rfl, ?_⟩) (by assumption) ?_
  rotate_left 1
  · (intro w hSw; (try dsimp only at hSw); go_simp <;> (with_reducible rfl))
  try simp only [Act.put, List.getElem_toArray, List.getElem_cons_succ, List.getElem_cons_zero, List.setIfInBounds_toArray, List.set_cons_zero, List.set_cons_succ]
  refine wpAnyH_done (by kernel_rfl) ?_ _
  refine NoPanic.normal ?_
  have b6 := hH0
  clear hH0
  go_wp2_with fail
  refine (CS.out _).mono ?_
  rintro e w8 ⟨rfl, b⟩
  have b8 := Below.more b6 b
  have B8 := Below.more BV b8
  clear b
  go_wp2_with fail
  refine (bcat3 _ _ _ _ _ 0 0 [] [] a s n d _ _ rfl rfl (Lns.nil _ _) (Lns.nil _ _) (by decide) (by decide)).mono ?_
  rintro e w9 ⟨⟨p', c', rfl, hc', hL⟩, b⟩
  rw [hR.out] at hc' hL ⊢
  have B9 := Below.more B8 b
  have HL := Lib.hid hL
  clear b hL
  go_wp2_with fail
  go_ret2
  exact ⟨⟨p', c', rfl, hc', HL.out⟩, B9⟩
set_option maxRecDepth 100000 in
set_option maxHeartbeats 4000000 in
theorem ba_N0 (b o : Nat) (c : Nat) (ls : List Ln) (r : Nat) (hc : ls.length ≤ c) (hl : ls.length ≤ 1000000) (a s n d : List UInt8) (w : World) (hr : r ≤ ls.length) (h : Lns w (some ⟨b, o, none⟩) ls) (R : List Ln) (hR : Hid (ls.take r ++ ls.drop (r) = R))
    (CM : Hid (∀ V, Below w.heap.size w V → Calls Tryz.prog 12 #[.slice (some ⟨b, o, none⟩) ls.length c] V (GiveB V true)))
    (CN : Hid (∀ V, Below w.heap.size w V → Calls Tryz.prog 27 #[.agg #[.string ⟨a.toArray⟩, .string ⟨s.toArray⟩, .string ⟨n.toArray⟩, .string ⟨d.toArray⟩]] V (GiveB V true)))
    (CR : Hid (∀ V, Below w.heap.size w V → Calls Tryz.prog 28 #[.agg #[.string ⟨n.toArray⟩, .string ⟨d.toArray⟩]] V (GiveB V true)))
    (CF : Hid (∀ V, Below w.heap.size w V → Calls Tryz.prog 29 #[.slice (some ⟨b, o, none⟩) ls.length c, .agg #[.string ⟨a.toArray⟩, .string ⟨s.toArray⟩, .string ⟨n.toArray⟩, .string ⟨d.toArray⟩]] V (GivePB V (r : Nat) false)))
    (CS : Hid (∀ V, Calls Tryz.prog 31 #[.agg #[.string ⟨n.toArray⟩, .string ⟨d.toArray⟩]] V (GiveI V 0))) :
    Calls Tryz.prog 9 #[.slice (some ⟨b, o, none⟩) ls.length c, .agg #[.string ⟨a.toArray⟩, .string ⟨s.toArray⟩, .string ⟨n.toArray⟩, .string ⟨d.toArray⟩]] w (GiveLB w (R, true)) := by
  have hri : (r : Int) ≤ (ls.length : Int) := by omega
  have hrc : (r : Int) ≤ (c : Int) := by omega
  have f1 : (ls.take r).length = r := by rw [List.length_take]; omega
  have f2 : (ls.drop r).length = ls.length - r := List.length_drop
  have l1 := h.takes r
  have l2 := h.drops (r)
  have l3 : ls.length ≤ r → Lns w (some ⟨b, o, none⟩) (ls.drop (r)) := fun e => by rw [List.drop_of_length_le e]; exact Lns.nil _ _
  clear h
  go_enter Tryz.func9, Tryz.ntmps9
  go_wp2_with fail
  obtain ⟨U, hU⟩ : ∃ U, w.alloc (.cells #[.string ⟨a.toArray⟩, .string ⟨s.toArray⟩, .string ⟨n.toArray⟩, .string ⟨d.toArray⟩] 27) = U := ⟨_, rfl⟩
  rw [hU]
  have hz : F4 w.heap.size (.string ⟨a.toArray⟩) (.string ⟨s.toArray⟩) (.string ⟨n.toArray⟩) (.string ⟨d.toArray⟩) U := hU ▸ f4_new _ _ _ _ _ _
  have BW : Below w.heap.size w U := hU ▸ Below.step _ (Below.refl _ _)
  clear hU
  obtain ⟨r0, r1, r2, r3⟩ := hz.rule
  have b0 := Below.refl U.heap.size U
  go_wp2_with fail
  refine (CM.out _ BW).mono ?_
  rintro e w1 ⟨rfl, b⟩
  have b1 := Below.more b0 b
  clear b
  go_wp2_with fail
  refine (CN.out _ (Below.more BW b1)).mono ?_
  rintro e w2 ⟨rfl, b⟩
  have b2 := Below.more b1 b
  clear b
  go_wp2_with fail
  refine (CR.out _ (Below.more BW b2)).mono ?_
  rintro e w3 ⟨rfl, b⟩
  have b3 := Below.more b2 b
  clear b
  go_wp2_with fail
  refine (CF.out _ (Below.more BW b3)).mono ?_
  rintro e w4 ⟨rfl, b⟩
  have b4 := Below.more b3 b
  have hz4 := hz.below b4
  have BV := Below.more BW b4
  clear b b0 b1 b2 b3 b4 r0 r1 r2 r3 hz BW
  obtain ⟨r0, r1, r2, r3⟩ := hz4.rule
  have b5 := Below.refl w4.heap.size w4
  have hB := Lib.hid (Nat.le_refl w4.heap.size)
  go_wp2_with fail
  refine wp_region_noPanic ?_
  refine wp_region_held_drew (S := fun w' => Below w4.heap.size w4 w') (by kernel_rfl) (b5.drew) (fun hH0 => ?_)
  refine wpAnyH_take (i := 0) (v := ?_) rfl (by kernel_rfl) (by kernel_rfl) (by kernel_rfl) (fun _ _ _ h => h) (Or.inl ⟨by rfl, ?_⟩) (by assumption) ?_
  rotate_left 1
  · (intro w hSw; (try dsimp only at hSw); go_simp <;> (with_reducible rfl))
  try simp only [Act.put, List.getElem_toArray, List.getElem_cons_succ, List.getElem_cons_zero, List.setIfInBounds_toArray, List.set_cons_zero, List.set_cons_succ]
  refine wpAnyH_take (i := 1) (v := ?_) rfl (by kernel_rfl) (by kernel_rfl) (by kernel_rfl) (fun _ _ _ h => h) (Or.inl ⟨by rfl, ?_⟩) (by assumption) ?_
  rotate_left 1
  · (intro w hSw; (try dsimp only at hSw); go_simp <;> (with_reducible rfl))
  try simp only [Act.put, List.getElem_toArray, List.getElem_cons_succ, List.getElem_cons_zero, List.setIfInBounds_toArray, List.set_cons_zero, List.set_cons_succ]
  refine wpAnyH_take (i := 2) (v := ?_) rfl (by kernel_rfl) (by kernel_rfl) (by kernel_rfl) (fun _ _ _ h => h) (Or.inl ⟨by rfl, ?_⟩) (by assumption) ?_
  rotate_left 1
  · (intro w hSw; (try dsimp only at hSw); go_simp <;> (with_reducible rfl))
  try simp only [Act.put, List.getElem_toArray, List.getElem_cons_succ, List.getElem_cons_zero, List.setIfInBounds_toArray, List.set_cons_zero, List.set_cons_succ]
  refine wpAnyH_take (i := 3) (v := ?_) rfl (by kernel_rfl) (by kernel_rfl) (by kernel_rfl) (fun _ _ _ h => h) (Or.inl ⟨by rfl, ?_⟩) (by assumption) ?_
  rotate_left 1
  · (intro w hSw; (try dsimp only at hSw); go_simp <;> (with_reducible rfl))
  try simp only [Act.put, List.getElem_toArray, List.getElem_cons_succ, List.getElem_cons_zero, List.setIfInBounds_toArray, List.set_cons_zero, List.set_cons_succ]
  refine wpAnyH_take (i := 4) (v := ?_) rfl (by kernel_rfl) (by kernel_rfl) (by kernel_rfl) (fun _ _ _ h => h) (Or.inl ⟨by rfl, ?_⟩) (by assumption) ?_
  rotate_left 1
  · (intro w hSw; (try dsimp only at hSw); go_simp <;> (with_reducible rfl))
  try simp only [Act.put, List.getElem_toArray, List.getElem_cons_succ, List.getElem_cons_zero, List.setIfInBounds_toArray, List.set_cons_zero, List.set_cons_succ]
  refine wpAnyH_take (i := 5) (v := ?_) rfl (by kernel_rfl) (by kernel_rfl) (by kernel_rfl) (fun _ _ _ h => h) (Or.inl ⟨by rfl, ?_⟩) (by assumption) ?_
  rotate_left 1
  · (intro w hSw; (try dsimp only at hSw); go_simp <;> (with_reducible rfl))
  try simp only [Act.put, List.getElem_toArray, List.getElem_cons_succ, List.getElem_cons_zero, List.setIfInBounds_toArray, List.set_cons_zero, List.set_cons_succ]
  refine wpAnyH_take (i := 6) (v := ?_) rfl (by kernel_rfl) (by kernel_rfl) (by kernel_rfl) (fun _ _ _ h => h) (Or.inl ⟨by rfl, ?_⟩) (by assumption) ?_
  rotate_left 1
  · (intro w hSw; (try dsimp only at hSw); go_simp <;> (with_reducible rfl))
  try simp only [Act.put, List.getElem_toArray, List.getElem_cons_succ, List.getElem_cons_zero, List.setIfInBounds_toArray, List.set_cons_zero, List.set_cons_succ]
  refine wpAnyH_take (i := 7) (v := ?_) rfl (by kernel_rfl) (by kernel_rfl) (by kernel_rfl) (fun _ _ _ h => h) (Or.inl ⟨by rfl, ?_⟩) (by assumption) ?_
  rotate_left 1
  · (intro w hSw; (try dsimp only at hSw); go_simp <;> (with_reducible rfl))
  try simp only [Act.put, List.getElem_toArray, List.getElem_cons_succ, List.getElem_cons_zero, List.setIfInBounds_toArray, List.set_cons_zero, List.set_cons_succ]
  refine wpAnyH_done (by kernel_rfl) ?_ _
  refine NoPanic.normal ?_
  have b6 := hH0
  clear hH0
  go_wp2_with fail
  all_goals (refine (CS.out _).mono ?_)
  all_goals (rintro e w8 ⟨rfl, b⟩)
  all_goals (have b8 := Below.more b6 b)
  all_goals (have B8 := Below.more BV b8)
  all_goals (have L1 := l1.below B8)
  all_goals (have La := l2.below B8)
  all_goals (have Lb := fun e => (l3 e).below B8)
  all_goals (clear b)
  all_goals (go_wp2_with fail)
  all_goals (first | (with_reducible refine (bcat2 _ _ _ _ _ _ _ _ _ _ f1 f2 L1 La (by omega) (by omega)).mono ?_) | (with_reducible refine (bcat2 _ _ _ _ _ _ _ _ _ _ f1 f2 L1 (Lb (by omega)) (by omega) (by omega)).mono ?_))
  all_goals (rintro e w9 ⟨⟨p', c', rfl, hc', hL⟩, b⟩)
  all_goals (rw [hR.out] at hc' hL ⊢)
  all_goals (have B9 := Below.more B8 b)
  all_goals (have HL := Lib.hid hL)
  all_goals (clear b hL)
  all_goals (go_wp2_with fail)
  all_goals (go_ret2)
  all_goals (exact ⟨⟨p', c', rfl, hc', HL.out⟩, B9⟩)
set_option maxRecDepth 100000 in
set_option maxHeartbeats 4000000 in
theorem ba_N1 (b o : Nat) (c : Nat) (ls : List Ln) (r : Nat) (hc : ls.length ≤ c) (hl : ls.length ≤ 1000000) (a s n d : List UInt8) (w : World) (hr : r ≤ ls.length) (h : Lns w (some ⟨b, o, none⟩) ls) (z : Int) (hz0 : ¬ z = 0) (R : List Ln) (hR : Hid (ls.take r ++ ([((a, s), (n, d))] ++ ls.drop (r)) = R))
    (CM : Hid (∀ V, Below w.heap.size w V → Calls Tryz.prog 12 #[.slice (some ⟨b, o, none⟩) ls.length c] V (GiveB V true)))
    (CN : Hid (∀ V, Below w.heap.size w V → Calls Tryz.prog 27 #[.agg #[.string ⟨a.toArray⟩, .string ⟨s.toArray⟩, .string ⟨n.toArray⟩, .string ⟨d.toArray⟩]] V (GiveB V true)))
    (CR : Hid (∀ V, Below w.heap.size w V → Calls Tryz.prog 28 #[.agg #[.string ⟨n.toArray⟩, .string ⟨d.toArray⟩]] V (GiveB V true)))
    (CF : Hid (∀ V, Below w.heap.size w V → Calls Tryz.prog 29 #[.slice (some ⟨b, o, none⟩) ls.length c, .agg #[.string ⟨a.toArray⟩, .string ⟨s.toArray⟩, .string ⟨n.toArray⟩, .string ⟨d.toArray⟩]] V (GivePB V (r : Nat) false)))
    (CS : Hid (∀ V, Calls Tryz.prog 31 #[.agg #[.string ⟨n.toArray⟩, .string ⟨d.toArray⟩]] V (GiveI V z))) :
    Calls Tryz.prog 9 #[.slice (some ⟨b, o, none⟩) ls.length c, .agg #[.string ⟨a.toArray⟩, .string ⟨s.toArray⟩, .string ⟨n.toArray⟩, .string ⟨d.toArray⟩]] w (GiveLB w (R, true)) := by
  have hri : (r : Int) ≤ (ls.length : Int) := by omega
  have hrc : (r : Int) ≤ (c : Int) := by omega
  have f1 : (ls.take r).length = r := by rw [List.length_take]; omega
  have f2 : (ls.drop r).length = ls.length - r := List.length_drop
  have l1 := h.takes r
  have l2 := h.drops (r)
  have l3 : ls.length ≤ r → Lns w (some ⟨b, o, none⟩) (ls.drop (r)) := fun e => by rw [List.drop_of_length_le e]; exact Lns.nil _ _
  clear h
  have hzb : (z == 0) = false := beq_false_of_ne hz0
  go_enter Tryz.func9, Tryz.ntmps9
  go_wp2_with fail
  obtain ⟨U, hU⟩ : ∃ U, w.alloc (.cells #[.string ⟨a.toArray⟩, .string ⟨s.toArray⟩, .string ⟨n.toArray⟩, .string ⟨d.toArray⟩] 27) = U := ⟨_, rfl⟩
  rw [hU]
  have hz : F4 w.heap.size (.string ⟨a.toArray⟩) (.string ⟨s.toArray⟩) (.string ⟨n.toArray⟩) (.string ⟨d.toArray⟩) U := hU ▸ f4_new _ _ _ _ _ _
  have BW : Below w.heap.size w U := hU ▸ Below.step _ (Below.refl _ _)
  clear hU
  obtain ⟨r0, r1, r2, r3⟩ := hz.rule
  have b0 := Below.refl U.heap.size U
  go_wp2_with fail
  refine (CM.out _ BW).mono ?_
  rintro e w1 ⟨rfl, b⟩
  have b1 := Below.more b0 b
  clear b
  go_wp2_with fail
  refine (CN.out _ (Below.more BW b1)).mono ?_
  rintro e w2 ⟨rfl, b⟩
  have b2 := Below.more b1 b
  clear b
  go_wp2_with fail
  refine (CR.out _ (Below.more BW b2)).mono ?_
  rintro e w3 ⟨rfl, b⟩
  have b3 := Below.more b2 b
  clear b
  go_wp2_with fail
  refine (CF.out _ (Below.more BW b3)).mono ?_
  rintro e w4 ⟨rfl, b⟩
  have b4 := Below.more b3 b
  have hz4 := hz.below b4
  have BV := Below.more BW b4
  clear b b0 b1 b2 b3 b4 r0 r1 r2 r3 hz BW
  obtain ⟨r0, r1, r2, r3⟩ := hz4.rule
  have b5 := Below.refl w4.heap.size w4
  have hB := Lib.hid (Nat.le_refl w4.heap.size)
  go_wp2_with fail
  refine wp_region_noPanic ?_
  refine wp_region_held_drew (S := fun w' => Below w4.heap.size w4 w') (by kernel_rfl) (b5.drew) (fun hH0 => ?_)
  refine wpAnyH_take (i := 0) (v := ?_) rfl (by kernel_rfl) (by kernel_rfl) (by kernel_rfl) (fun _ _ _ h => h) (Or.inl ⟨by rfl, ?_⟩) (by assumption) ?_
  rotate_left 1
  · (intro w hSw; (try dsimp only at hSw); go_simp <;> (with_reducible rfl))
  try simp only [Act.put, List.getElem_toArray, List.getElem_cons_succ, List.getElem_cons_zero, List.setIfInBounds_toArray, List.set_cons_zero, List.set_cons_succ]
  refine wpAnyH_take (i := 1) (v := ?_) rfl (by kernel_rfl) (by kernel_rfl) (by kernel_rfl) (fun _ _ _ h => h) (Or.inl ⟨by rfl, ?_⟩) (by assumption) ?_
  rotate_left 1
  · (intro w hSw; (try dsimp only at hSw); go_simp <;> (with_reducible rfl))
  try simp only [Act.put, List.getElem_toArray, List.getElem_cons_succ, List.getElem_cons_zero, List.setIfInBounds_toArray, List.set_cons_zero, List.set_cons_succ]
  refine wpAnyH_take (i := 2) (v := ?_) rfl (by kernel_rfl) (by kernel_rfl) (by kernel_rfl) (fun _ _ _ h => h) (Or.inl ⟨by rfl, ?_⟩) (by assumption) ?_
  rotate_left 1
  · (intro w hSw; (try dsimp only at hSw); go_simp <;> (with_reducible rfl))
  try simp only [Act.put, List.getElem_toArray, List.getElem_cons_succ, List.getElem_cons_zero, List.setIfInBounds_toArray, List.set_cons_zero, List.set_cons_succ]
  refine wpAnyH_take (i := 3) (v := ?_) rfl (by kernel_rfl) (by kernel_rfl) (by kernel_rfl) (fun _ _ _ h => h) (Or.inl ⟨by rfl, ?_⟩) (by assumption) ?_
  rotate_left 1
  · (intro w hSw; (try dsimp only at hSw); go_simp <;> (with_reducible rfl))
  try simp only [Act.put, List.getElem_toArray, List.getElem_cons_succ, List.getElem_cons_zero, List.setIfInBounds_toArray, List.set_cons_zero, List.set_cons_succ]
  refine wpAnyH_take (i := 4) (v := ?_) rfl (by kernel_rfl) (by kernel_rfl) (by kernel_rfl) (fun _ _ _ h => h) (Or.inl ⟨by rfl, ?_⟩) (by assumption) ?_
  rotate_left 1
  · (intro w hSw; (try dsimp only at hSw); go_simp <;> (with_reducible rfl))
  try simp only [Act.put, List.getElem_toArray, List.getElem_cons_succ, List.getElem_cons_zero, List.setIfInBounds_toArray, List.set_cons_zero, List.set_cons_succ]
  refine wpAnyH_take (i := 5) (v := ?_) rfl (by kernel_rfl) (by kernel_rfl) (by kernel_rfl) (fun _ _ _ h => h) (Or.inl ⟨by rfl, ?_⟩) (by assumption) ?_
  rotate_left 1
  · (intro w hSw; (try dsimp only at hSw); go_simp <;> (with_reducible rfl))
  try simp only [Act.put, List.getElem_toArray, List.getElem_cons_succ, List.getElem_cons_zero, List.setIfInBounds_toArray, List.set_cons_zero, List.set_cons_succ]
  refine wpAnyH_take (i := 6) (v := ?_) rfl (by kernel_rfl) (by kernel_rfl) (by kernel_rfl) (fun _ _ _ h => h) (Or.inl ⟨by rfl, ?_⟩) (by assumption) ?_
  rotate_left 1
  · (intro w hSw; (try dsimp only at hSw); go_simp <;> (with_reducible rfl))
  try simp only [Act.put, List.getElem_toArray, List.getElem_cons_succ, List.getElem_cons_zero, List.setIfInBounds_toArray, List.set_cons_zero, List.set_cons_succ]
  refine wpAnyH_take (i := 7) (v := ?_) rfl (by kernel_rfl) (by kernel_rfl) (by kernel_rfl) (fun _ _ _ h => h) (Or.inl ⟨by rfl, ?_⟩) (by assumption) ?_
  rotate_left 1
  · (intro w hSw; (try dsimp only at hSw); go_simp <;> (with_reducible rfl))
  try simp only [Act.put, List.getElem_toArray, List.getElem_cons_succ, List.getElem_cons_zero, List.setIfInBounds_toArray, List.set_cons_zero, List.set_cons_succ]
  refine wpAnyH_done (by kernel_rfl) ?_ _
  refine NoPanic.normal ?_
  have b6 := hH0
  clear hH0
  go_wp2_with fail
  all_goals (refine (CS.out _).mono ?_)
  all_goals (rintro e w8 ⟨rfl, b⟩)
  all_goals (have b8 := Below.more b6 b)
  all_goals (have B8 := Below.more BV b8)
  all_goals (have L1 := l1.below B8)
  all_goals (have La := l2.below B8)
  all_goals (have Lb := fun e => (l3 e).below B8)
  all_goals (clear b)
  all_goals (go_wp2_with fail)
  all_goals (first | (with_reducible refine (bcat3 _ _ _ _ _ _ _ _ _ a s n d _ _ f1 f2 L1 La (by omega) (by omega)).mono ?_) | (with_reducible refine (bcat3 _ _ _ _ _ _ _ _ _ a s n d _ _ f1 f2 L1 (Lb (by omega)) (by omega) (by omega)).mono ?_))
  all_goals (rintro e w9 ⟨⟨p', c', rfl, hc', hL⟩, b⟩)
  all_goals (rw [hR.out] at hc' hL ⊢)
  all_goals (have B9 := Below.more B8 b)
  all_goals (have HL := Lib.hid hL)
  all_goals (clear b hL)
  all_goals (go_wp2_with fail)
  all_goals (go_ret2)
  all_goals (exact ⟨⟨p', c', rfl, hc', HL.out⟩, B9⟩)
set_option maxRecDepth 100000 in
set_option maxHeartbeats 4000000 in
theorem ba_T0 (b o : Nat) (c : Nat) (ls : List Ln) (r : Nat) (hc : ls.length ≤ c) (hl : ls.length ≤ 1000000) (a s n d : List UInt8) (w : World) (hr : r < ls.length) (a0 s0 n0 d0 x y : List UInt8) (hx : ls[r]? = some ((a0, s0), (n0, d0))) (h : Lns w (some ⟨b, o, none⟩) ls) (R : List Ln) (hR : Hid (ls.take r ++ ls.drop (r + 1) = R))
    (CM : Hid (∀ V, Below w.heap.size w V → Calls Tryz.prog 12 #[.slice (some ⟨b, o, none⟩) ls.length c] V (GiveB V true)))
    (CN : Hid (∀ V, Below w.heap.size w V → Calls Tryz.prog 27 #[.agg #[.string ⟨a.toArray⟩, .string ⟨s.toArray⟩, .string ⟨n.toArray⟩, .string ⟨d.toArray⟩]] V (GiveB V true)))
    (CR : Hid (∀ V, Below w.heap.size w V → Calls Tryz.prog 28 #[.agg #[.string ⟨n.toArray⟩, .string ⟨d.toArray⟩]] V (GiveB V true)))
    (CF : Hid (∀ V, Below w.heap.size w V → Calls Tryz.prog 29 #[.slice (some ⟨b, o, none⟩) ls.length c, .agg #[.string ⟨a.toArray⟩, .string ⟨s.toArray⟩, .string ⟨n.toArray⟩, .string ⟨d.toArray⟩]] V (GivePB V (r : Nat) true)))
    (CA : Hid (∀ V, Calls Tryz.prog 30 #[.agg #[.string ⟨n0.toArray⟩, .string ⟨d0.toArray⟩], .agg #[.string ⟨n.toArray⟩, .string ⟨d.toArray⟩]] V (GiveR V (x, y))))
    (CS : Hid (∀ V, Calls Tryz.prog 31 #[.agg #[.string ⟨x.toArray⟩, .string ⟨y.toArray⟩]] V (GiveI V 0))) :
    Calls Tryz.prog 9 #[.slice (some ⟨b, o, none⟩) ls.length c, .agg #[.string ⟨a.toArray⟩, .string ⟨s.toArray⟩, .string ⟨n.toArray⟩, .string ⟨d.toArray⟩]] w (GiveLB w (R, true)) := by
  have hri : (r : Int) ≤ (ls.length : Int) := by omega
  have hrc : (r : Int) ≤ (c : Int) := by omega
  have f1 : (ls.take r).length = r := by rw [List.length_take]; omega
  have f2 : (ls.drop (r + 1)).length = ls.length - (r + 1) := List.length_drop
  have hrl : (r : Int) < (ls.length : Int) := by omega
  have hw1 : IntKind.i64.wrap ((r : Int) + 1) = (r : Int) + 1 := IntWalk.i64_in _ (by omega)
  have hri1 : (r : Int) + 1 ≤ (ls.length : Int) := by omega
  have hcr0 : ¬ c = r := by omega
  obtain ⟨b', o', hp, k0, k1, k2, k3⟩ := h.rule hx
  cases hp
  clear hx k0 k1
  have l1 := h.takes r
  have l2 := h.drops (r + 1)
  have l3 : ls.length ≤ r + 1 → Lns w (some ⟨b, o, none⟩) (ls.drop (r + 1)) := fun e => by rw [List.drop_of_length_le e]; exact Lns.nil _ _
  clear h
  go_enter Tryz.func9, Tryz.ntmps9
  go_wp2_with fail
  obtain ⟨U, hU⟩ : ∃ U, w.alloc (.cells #[.string ⟨a.toArray⟩, .string ⟨s.toArray⟩, .string ⟨n.toArray⟩, .string ⟨d.toArray⟩] 27) = U := ⟨_, rfl⟩
  rw [hU]
  have hz : F4 w.heap.size (.string ⟨a.toArray⟩) (.string ⟨s.toArray⟩) (.string ⟨n.toArray⟩) (.string ⟨d.toArray⟩) U := hU ▸ f4_new _ _ _ _ _ _
  have BW : Below w.heap.size w U := hU ▸ Below.step _ (Below.refl _ _)
  clear hU
  obtain ⟨r0, r1, r2, r3⟩ := hz.rule
  have b0 := Below.refl U.heap.size U
  go_wp2_with fail
  refine (CM.out _ BW).mono ?_
  rintro e w1 ⟨rfl, b⟩
  have b1 := Below.more b0 b
  clear b
  go_wp2_with fail
  refine (CN.out _ (Below.more BW b1)).mono ?_
  rintro e w2 ⟨rfl, b⟩
  have b2 := Below.more b1 b
  clear b
  go_wp2_with fail
  refine (CR.out _ (Below.more BW b2)).mono ?_
  rintro e w3 ⟨rfl, b⟩
  have b3 := Below.more b2 b
  clear b
  go_wp2_with fail
  refine (CF.out _ (Below.more BW b3)).mono ?_
  rintro e w4 ⟨rfl, b⟩
  have b4 := Below.more b3 b
  have hz4 := hz.below b4
  have BV := Below.more BW b4
  clear b b0 b1 b2 b3 b4 r0 r1 r2 r3 hz BW
  obtain ⟨r0, r1, r2, r3⟩ := hz4.rule
  have b5 := Below.refl w4.heap.size w4
  have hB := Lib.hid (Nat.le_refl w4.heap.size)
  go_wp2_with fail
  refine wp_region_noPanic ?_
  refine wp_region_held_drew (S := fun w' => Below w4.heap.size w4 w') (by kernel_rfl) (b5.drew) (fun hH0 => ?_)
  refine wpAnyH_take (i := 0) (v := ?_) rfl (by kernel_rfl) (by kernel_rfl) (by kernel_rfl) (fun _ _ _ h => h) (Or.inl ⟨by rfl, ?_⟩) (by assumption) ?_
  rotate_left 1
  · (intro w hSw; (try dsimp only at hSw); go_simp <;> (with_reducible rfl))
  try simp only [Act.put, List.getElem_toArray, List.getElem_cons_succ, List.getElem_cons_zero, List.setIfInBounds_toArray, List.set_cons_zero, List.set_cons_succ]
  refine wpAnyH_take (i := 1) (v := ?_) rfl (by kernel_rfl) (by kernel_rfl) (by kernel_rfl) (fun _ _ _ h => h) (Or.inl ⟨by rfl, ?_⟩) (by assumption) ?_
  rotate_left 1
  · (intro w hSw; (try dsimp only at hSw); go_simp <;> (with_reducible rfl))
  try simp only [Act.put, List.getElem_toArray, List.getElem_cons_succ, List.getElem_cons_zero, List.setIfInBounds_toArray, List.set_cons_zero, List.set_cons_succ]
  refine wpAnyH_take (i := 2) (v := ?_) rfl (by kernel_rfl) (by kernel_rfl) (by kernel_rfl) (fun _ _ _ h => h) (Or.inl ⟨by rfl, ?_⟩) (by assumption) ?_
  rotate_left 1
  · (intro w hSw; (try dsimp only at hSw); go_simp <;> (with_reducible rfl))
  try simp only [Act.put, List.getElem_toArray, List.getElem_cons_succ, List.getElem_cons_zero, List.setIfInBounds_toArray, List.set_cons_zero, List.set_cons_succ]
  refine wpAnyH_take (i := 3) (v := ?_) rfl (by kernel_rfl) (by kernel_rfl) (by kernel_rfl) (fun _ _ _ h => h) (Or.inl ⟨by rfl, ?_⟩) (by assumption) ?_
  rotate_left 1
  · (intro w hSw; (try dsimp only at hSw); go_simp <;> (with_reducible rfl))
  try simp only [Act.put, List.getElem_toArray, List.getElem_cons_succ, List.getElem_cons_zero, List.setIfInBounds_toArray, List.set_cons_zero, List.set_cons_succ]
  refine wpAnyH_take (i := 4) (v := ?_) rfl (by kernel_rfl) (by kernel_rfl) (by kernel_rfl) (fun _ _ _ h => h) (Or.inl ⟨by rfl, ?_⟩) (by assumption) ?_
  rotate_left 1
  · (intro w hSw; (try dsimp only at hSw); go_simp <;> (with_reducible rfl))
  try simp only [Act.put, List.getElem_toArray, List.getElem_cons_succ, List.getElem_cons_zero, List.setIfInBounds_toArray, List.set_cons_zero, List.set_cons_succ]
  refine wpAnyH_take (i := 5) (v := ?_) rfl (by kernel_rfl) (by kernel_rfl) (by kernel_rfl) (fun _ _ _ h => h) (Or.inl ⟨by rfl, ?_⟩) (by assumption) ?_
  rotate_left 1
  · (intro w hSw; (try dsimp only at hSw); go_simp <;> (with_reducible rfl))
  try simp only [Act.put, List.getElem_toArray, List.getElem_cons_succ, List.getElem_cons_zero, List.setIfInBounds_toArray, List.set_cons_zero, List.set_cons_succ]
  refine wpAnyH_take (i := 6) (v := ?_) rfl (by kernel_rfl) (by kernel_rfl) (by kernel_rfl) (fun _ _ _ h => h) (Or.inl ⟨by rfl, ?_⟩) (by assumption) ?_
  rotate_left 1
  · (intro w hSw; (try dsimp only at hSw); go_simp <;> (with_reducible rfl))
  try simp only [Act.put, List.getElem_toArray, List.getElem_cons_succ, List.getElem_cons_zero, List.setIfInBounds_toArray, List.set_cons_zero, List.set_cons_succ]
  refine wpAnyH_take (i := 7) (v := ?_) rfl (by kernel_rfl) (by kernel_rfl) (by kernel_rfl) (fun _ _ _ h => h) (Or.inl ⟨by rfl, ?_⟩) (by assumption) ?_
  rotate_left 1
  · (intro w hSw; (try dsimp only at hSw); go_simp <;> (with_reducible rfl))
  try simp only [Act.put, List.getElem_toArray, List.getElem_cons_succ, List.getElem_cons_zero, List.setIfInBounds_toArray, List.set_cons_zero, List.set_cons_succ]
  refine wpAnyH_done (by kernel_rfl) ?_ _
  refine NoPanic.normal ?_
  have b6 := hH0
  clear hH0
  go_wp2_with fail
  have hzX := hz4.below b6
  have bX := b6.mono (Below.size BV)
  have hzd := hzX.drew
  have y2 := hzd.c2; have y3 := hzd.c3
  clear r0 r1 r2 r3
  have q2 := fun v (h : Below w.heap.size w4 v) => k2 v (BV.trans h)
  have q3 := fun v (h : Below w.heap.size w4 v) => k3 v (BV.trans h)
  refine wp_region_noPanic ?_
  refine wp_region_held_drew (S := fun w' => Below w.heap.size w4 w') (by kernel_rfl) (bX.drew) (fun hH0 => ?_)
  refine wpAnyH_take (i := 0) (v := ?_) rfl (by kernel_rfl) (by kernel_rfl) (by kernel_rfl) (fun _ _ _ h => h) (Or.inl ⟨by rfl, ?_⟩) (by assumption) ?_
  rotate_left 1
  · (intro w hSw; (try dsimp only at hSw); go_simp <;> (with_reducible rfl))
  try simp only [Act.put, List.getElem_toArray, List.getElem_cons_succ, List.getElem_cons_zero, List.setIfInBounds_toArray, List.set_cons_zero, List.set_cons_succ]
  refine wpAnyH_take (i := 1) (v := ?_) rfl (by kernel_rfl) (by kernel_rfl) (by kernel_rfl) (fun _ _ _ h => h) (Or.inl ⟨by rfl, ?_⟩) (by assumption) ?_
  rotate_left 1
  · (intro w hSw; (try dsimp only at hSw); go_simp <;> (with_reducible rfl))
  try simp only [Act.put, List.getElem_toArray, List.getElem_cons_succ, List.getElem_cons_zero, List.setIfInBounds_toArray, List.set_cons_zero, List.set_cons_succ]
  refine wpAnyH_take (i := 2) (v := ?_) rfl (by kernel_rfl) (by kernel_rfl) (by kernel_rfl) (fun _ _ _ h => h) (Or.inl ⟨by rfl, ?_⟩) (by assumption) ?_
  rotate_left 1
  · (intro w hSw; (try dsimp only at hSw); go_simp <;> (with_reducible rfl))
  try simp only [Act.put, List.getElem_toArray, List.getElem_cons_succ, List.getElem_cons_zero, List.setIfInBounds_toArray, List.set_cons_zero, List.set_cons_succ]
  refine wpAnyH_take (i := 3) (v := ?_) rfl (by kernel_rfl) (by kernel_rfl) (by kernel_rfl) (fun _ _ _ h => h) (Or.inl ⟨by rfl, ?_⟩) (by assumption) ?_
  rotate_left 1
  · (intro w hSw; (try dsimp only at hSw); go_simp <;> (with_reducible rfl))
  try simp only [Act.put, List.getElem_toArray, List.getElem_cons_succ, List.getElem_cons_zero, List.setIfInBounds_toArray, List.set_cons_zero, List.set_cons_succ]
  refine wpAnyH_take (i := 4) (v := ?_) rfl (by kernel_rfl) (by kernel_rfl) (by kernel_rfl) (fun _ _ _ h => h) (Or.inl ⟨by rfl, ?_⟩) (by assumption) ?_
  rotate_left 1
  · (intro w hSw; (try dsimp only at hSw); go_simp <;> (with_reducible rfl))
  try simp only [Act.put, List.getElem_toArray, List.getElem_cons_succ, List.getElem_cons_zero, List.setIfInBounds_toArray, List.set_cons_zero, List.set_cons_succ]
  refine wpAnyH_take (i := 5) (v := ?_) rfl (by kernel_rfl) (by kernel_rfl) (by kernel_rfl) (fun _ _ _ h => h) (Or.inl ⟨by rfl, ?_⟩) (by assumption) ?_
  rotate_left 1
  · (intro w hSw; (try dsimp only at hSw); go_simp <;> (with_reducible rfl))
  try simp only [Act.put, List.getElem_toArray, List.getElem_cons_succ, List.getElem_cons_zero, List.setIfInBounds_toArray, List.set_cons_zero, List.set_cons_succ]
  refine wpAnyH_ready (rs := [6]) (by kernel_rfl) (by simp) ?_
  refine AllReadyH.cons rfl (fun K hK => ?_) AllReadyH.nil
  go_simp
  refine hK.out _ _ hH0 (fun hH1 => ?_)
  clear hK hH0
  try simp only [Act.put, List.getElem_toArray, List.getElem_cons_succ, List.getElem_cons_zero, List.setIfInBounds_toArray, List.set_cons_zero, List.set_cons_succ]
  refine wpAnyH_ready (rs := [7]) (by kernel_rfl) (by simp) ?_
  refine AllReadyH.cons rfl (fun K hK => ?_) AllReadyH.nil
  go_simp
  refine (held4 (CA.out _) hH1 hzd (Below.size BV)).mono ?_
  rintro e w'' ⟨rfl, hw, hzw⟩
  have y2 := hzw.c2; have y3 := hzw.c3; have y4 := hzw.f2; have y5 := hzw.f3
  (try go_wp2_with fail)
  refine hK.out _ _ hw (fun hH2 => ?_)
  clear hK hH1
  try simp only [Act.put, List.getElem_toArray, List.getElem_cons_succ, List.getElem_cons_zero, List.setIfInBounds_toArray, List.set_cons_zero, List.set_cons_succ]
  refine wpAnyH_take (i := 8) (v := ?_) rfl (by kernel_rfl) (by kernel_rfl) (by kernel_rfl) (fun _ _ _ h => h) (Or.inl ⟨by rfl, ?_⟩) (by assumption) ?_
  rotate_left 1
  · (intro w hSw; (try dsimp only at hSw); go_simp <;> (with_reducible rfl))
  try simp only [Act.put, List.getElem_toArray, List.getElem_cons_succ, List.getElem_cons_zero, List.setIfInBounds_toArray, List.set_cons_zero, List.set_cons_succ]
  refine wpAnyH_ready (rs := [9]) (by kernel_rfl) (by simp) ?_
  refine AllReadyH.cons rfl (fun K hK => ?_) AllReadyH.nil
  go_simp
  refine hK.out _ _ (below_put hH2 (Nat.le_refl _) _ _) (fun hH3 => ?_)
  clear hK hH2
  try simp only [Act.put, List.getElem_toArray, List.getElem_cons_succ, List.getElem_cons_zero, List.setIfInBounds_toArray, List.set_cons_zero, List.set_cons_succ]
  refine wpAnyH_done (by kernel_rfl) ?_ _
  refine NoPanic.normal ?_
  have hZ := f4_put (z' := .string ⟨x.toArray⟩) (t' := .string ⟨y.toArray⟩) hzw
  generalize ((w''.setCell ⟨w.heap.size, 2, none⟩ (.string ⟨x.toArray⟩)).setCell ⟨w.heap.size, 3, none⟩ (.string ⟨y.toArray⟩)) = Y at *
  clear y2 y3 y4 y5 hzd hzX hzw hw bX b6 q2 q3 hz4
  obtain ⟨r0, r1, r2, r3⟩ := hZ.rule
  have BY := BV.trans hH3
  have bY := Below.refl Y.heap.size Y
  clear hH3
  go_wp2_with fail
  all_goals (refine (CS.out _).mono ?_)
  all_goals (rintro e w8 ⟨rfl, b⟩)
  all_goals (have b8 := Below.more bY b)
  all_goals (have B8 := Below.more BY b8)
  all_goals (have L1 := l1.below B8)
  all_goals (have La := l2.below B8)
  all_goals (have Lb := fun e => (l3 e).below B8)
  all_goals (clear b)
  all_goals (go_wp2_with fail)
  all_goals (first | (with_reducible refine (bcat2 _ _ _ _ _ _ _ _ _ _ f1 f2 L1 La (by omega) (by omega)).mono ?_) | (with_reducible refine (bcat2 _ _ _ _ _ _ _ _ _ _ f1 f2 L1 (Lb (by omega)) (by omega) (by omega)).mono ?_))
  all_goals (rintro e w9 ⟨⟨p', c', rfl, hc', hL⟩, b⟩)
  all_goals (rw [hR.out] at hc' hL ⊢)
  all_goals (have B9 := Below.more B8 b)
  all_goals (have HL := Lib.hid hL)
  all_goals (clear b hL)
  all_goals (go_wp2_with fail)
  all_goals (go_ret2)
  all_goals (exact ⟨⟨p', c', rfl, hc', HL.out⟩, B9⟩)
set_option maxRecDepth 100000 in
set_option maxHeartbeats 4000000 in
theorem ba_T1 (b o : Nat) (c : Nat) (ls : List Ln) (r : Nat) (hc : ls.length ≤ c) (hl : ls.length ≤ 1000000) (a s n d : List UInt8) (w : World) (hr : r < ls.length) (a0 s0 n0 d0 x y : List UInt8) (hx : ls[r]? = some ((a0, s0), (n0, d0))) (h : Lns w (some ⟨b, o, none⟩) ls) (z : Int) (hz0 : ¬ z = 0) (R : List Ln) (hR : Hid (ls.take r ++ ([((a, s), (x, y))] ++ ls.drop (r + 1)) = R))
    (CM : Hid (∀ V, Below w.heap.size w V → Calls Tryz.prog 12 #[.slice (some ⟨b, o, none⟩) ls.length c] V (GiveB V true)))
    (CN : Hid (∀ V, Below w.heap.size w V → Calls Tryz.prog 27 #[.agg #[.string ⟨a.toArray⟩, .string ⟨s.toArray⟩, .string ⟨n.toArray⟩, .string ⟨d.toArray⟩]] V (GiveB V true)))
    (CR : Hid (∀ V, Below w.heap.size w V → Calls Tryz.prog 28 #[.agg #[.string ⟨n.toArray⟩, .string ⟨d.toArray⟩]] V (GiveB V true)))
    (CF : Hid (∀ V, Below w.heap.size w V → Calls Tryz.prog 29 #[.slice (some ⟨b, o, none⟩) ls.length c, .agg #[.string ⟨a.toArray⟩, .string ⟨s.toArray⟩, .string ⟨n.toArray⟩, .string ⟨d.toArray⟩]] V (GivePB V (r : Nat) true)))
    (CA : Hid (∀ V, Calls Tryz.prog 30 #[.agg #[.string ⟨n0.toArray⟩, .string ⟨d0.toArray⟩], .agg #[.string ⟨n.toArray⟩, .string ⟨d.toArray⟩]] V (GiveR V (x, y))))
    (CS : Hid (∀ V, Calls Tryz.prog 31 #[.agg #[.string ⟨x.toArray⟩, .string ⟨y.toArray⟩]] V (GiveI V z))) :
    Calls Tryz.prog 9 #[.slice (some ⟨b, o, none⟩) ls.length c, .agg #[.string ⟨a.toArray⟩, .string ⟨s.toArray⟩, .string ⟨n.toArray⟩, .string ⟨d.toArray⟩]] w (GiveLB w (R, true)) := by
  have hri : (r : Int) ≤ (ls.length : Int) := by omega
  have hrc : (r : Int) ≤ (c : Int) := by omega
  have f1 : (ls.take r).length = r := by rw [List.length_take]; omega
  have f2 : (ls.drop (r + 1)).length = ls.length - (r + 1) := List.length_drop
  have hrl : (r : Int) < (ls.length : Int) := by omega
  have hw1 : IntKind.i64.wrap ((r : Int) + 1) = (r : Int) + 1 := IntWalk.i64_in _ (by omega)
  have hri1 : (r : Int) + 1 ≤ (ls.length : Int) := by omega
  have hcr0 : ¬ c = r := by omega
  obtain ⟨b', o', hp, k0, k1, k2, k3⟩ := h.rule hx
  cases hp
  clear hx k0 k1
  have l1 := h.takes r
  have l2 := h.drops (r + 1)
  have l3 : ls.length ≤ r + 1 → Lns w (some ⟨b, o, none⟩) (ls.drop (r + 1)) := fun e => by rw [List.drop_of_length_le e]; exact Lns.nil _ _
  clear h
  have hzb : (z == 0) = false := beq_false_of_ne hz0
  go_enter Tryz.func9, Tryz.ntmps9
  go_wp2_with fail
  obtain ⟨U, hU⟩ : ∃ U, w.alloc (.cells #[.string ⟨a.toArray⟩, .string ⟨s.toArray⟩, .string ⟨n.toArray⟩, .string ⟨d.toArray⟩] 27) = U := ⟨_, rfl⟩
  rw [hU]
  have hz : F4 w.heap.size (.string ⟨a.toArray⟩) (.string ⟨s.toArray⟩) (.string ⟨n.toArray⟩) (.string ⟨d.toArray⟩) U := hU ▸ f4_new _ _ _ _ _ _
  have BW : Below w.heap.size w U := hU ▸ Below.step _ (Below.refl _ _)
  clear hU
  obtain ⟨r0, r1, r2, r3⟩ := hz.rule
  have b0 := Below.refl U.heap.size U
  go_wp2_with fail
  refine (CM.out _ BW).mono ?_
  rintro e w1 ⟨rfl, b⟩
  have b1 := Below.more b0 b
  clear b
  go_wp2_with fail
  refine (CN.out _ (Below.more BW b1)).mono ?_
  rintro e w2 ⟨rfl, b⟩
  have b2 := Below.more b1 b
  clear b
  go_wp2_with fail
  refine (CR.out _ (Below.more BW b2)).mono ?_
  rintro e w3 ⟨rfl, b⟩
  have b3 := Below.more b2 b
  clear b
  go_wp2_with fail
  refine (CF.out _ (Below.more BW b3)).mono ?_
  rintro e w4 ⟨rfl, b⟩
  have b4 := Below.more b3 b
  have hz4 := hz.below b4
  have BV := Below.more BW b4
  clear b b0 b1 b2 b3 b4 r0 r1 r2 r3 hz BW
  obtain ⟨r0, r1, r2, r3⟩ := hz4.rule
  have b5 := Below.refl w4.heap.size w4
  have hB := Lib.hid (Nat.le_refl w4.heap.size)
  go_wp2_with fail
  refine wp_region_noPanic ?_
  refine wp_region_held_drew (S := fun w' => Below w4.heap.size w4 w') (by kernel_rfl) (b5.drew) (fun hH0 => ?_)
  refine wpAnyH_take (i := 0) (v := ?_) rfl (by kernel_rfl) (by kernel_rfl) (by kernel_rfl) (fun _ _ _ h => h) (Or.inl ⟨by rfl, ?_⟩) (by assumption) ?_
  rotate_left 1
  · (intro w hSw; (try dsimp only at hSw); go_simp <;> (with_reducible rfl))
  try simp only [Act.put, List.getElem_toArray, List.getElem_cons_succ, List.getElem_cons_zero, List.setIfInBounds_toArray, List.set_cons_zero, List.set_cons_succ]
  refine wpAnyH_take (i := 1) (v := ?_) rfl (by kernel_rfl) (by kernel_rfl) (by kernel_rfl) (fun _ _ _ h => h) (Or.inl ⟨by rfl, ?_⟩) (by assumption) ?_
  rotate_left 1
  · (intro w hSw; (try dsimp only at hSw); go_simp <;> (with_reducible rfl))
  try simp only [Act.put, List.getElem_toArray, List.getElem_cons_succ, List.getElem_cons_zero, List.setIfInBounds_toArray, List.set_cons_zero, List.set_cons_succ]
  refine wpAnyH_take (i := 2) (v := ?_) rfl (by kernel_rfl) (by kernel_rfl) (by kernel_rfl) (fun _ _ _ h => h) (Or.inl ⟨by rfl, ?_⟩) (by assumption) ?_
  rotate_left 1
  · (intro w hSw; (try dsimp only at hSw); go_simp <;> (with_reducible rfl))
  try simp only [Act.put, List.getElem_toArray, List.getElem_cons_succ, List.getElem_cons_zero, List.setIfInBounds_toArray, List.set_cons_zero, List.set_cons_succ]
  refine wpAnyH_take (i := 3) (v := ?_) rfl (by kernel_rfl) (by kernel_rfl) (by kernel_rfl) (fun _ _ _ h => h) (Or.inl ⟨by rfl, ?_⟩) (by assumption) ?_
  rotate_left 1
  · (intro w hSw; (try dsimp only at hSw); go_simp <;> (with_reducible rfl))
  try simp only [Act.put, List.getElem_toArray, List.getElem_cons_succ, List.getElem_cons_zero, List.setIfInBounds_toArray, List.set_cons_zero, List.set_cons_succ]
  refine wpAnyH_take (i := 4) (v := ?_) rfl (by kernel_rfl) (by kernel_rfl) (by kernel_rfl) (fun _ _ _ h => h) (Or.inl ⟨by rfl, ?_⟩) (by assumption) ?_
  rotate_left 1
  · (intro w hSw; (try dsimp only at hSw); go_simp <;> (with_reducible rfl))
  try simp only [Act.put, List.getElem_toArray, List.getElem_cons_succ, List.getElem_cons_zero, List.setIfInBounds_toArray, List.set_cons_zero, List.set_cons_succ]
  refine wpAnyH_take (i := 5) (v := ?_) rfl (by kernel_rfl) (by kernel_rfl) (by kernel_rfl) (fun _ _ _ h => h) (Or.inl ⟨by rfl, ?_⟩) (by assumption) ?_
  rotate_left 1
  · (intro w hSw; (try dsimp only at hSw); go_simp <;> (with_reducible rfl))
  try simp only [Act.put, List.getElem_toArray, List.getElem_cons_succ, List.getElem_cons_zero, List.setIfInBounds_toArray, List.set_cons_zero, List.set_cons_succ]
  refine wpAnyH_take (i := 6) (v := ?_) rfl (by kernel_rfl) (by kernel_rfl) (by kernel_rfl) (fun _ _ _ h => h) (Or.inl ⟨by rfl, ?_⟩) (by assumption) ?_
  rotate_left 1
  · (intro w hSw; (try dsimp only at hSw); go_simp <;> (with_reducible rfl))
  try simp only [Act.put, List.getElem_toArray, List.getElem_cons_succ, List.getElem_cons_zero, List.setIfInBounds_toArray, List.set_cons_zero, List.set_cons_succ]
  refine wpAnyH_take (i := 7) (v := ?_) rfl (by kernel_rfl) (by kernel_rfl) (by kernel_rfl) (fun _ _ _ h => h) (Or.inl ⟨by rfl, ?_⟩) (by assumption) ?_
  rotate_left 1
  · (intro w hSw; (try dsimp only at hSw); go_simp <;> (with_reducible rfl))
  try simp only [Act.put, List.getElem_toArray, List.getElem_cons_succ, List.getElem_cons_zero, List.setIfInBounds_toArray, List.set_cons_zero, List.set_cons_succ]
  refine wpAnyH_done (by kernel_rfl) ?_ _
  refine NoPanic.normal ?_
  have b6 := hH0
  clear hH0
  go_wp2_with fail
  have hzX := hz4.below b6
  have bX := b6.mono (Below.size BV)
  have hzd := hzX.drew
  have y2 := hzd.c2; have y3 := hzd.c3
  clear r0 r1 r2 r3
  have q2 := fun v (h : Below w.heap.size w4 v) => k2 v (BV.trans h)
  have q3 := fun v (h : Below w.heap.size w4 v) => k3 v (BV.trans h)
  refine wp_region_noPanic ?_
  refine wp_region_held_drew (S := fun w' => Below w.heap.size w4 w') (by kernel_rfl) (bX.drew) (fun hH0 => ?_)
  refine wpAnyH_take (i := 0) (v := ?_) rfl (by kernel_rfl) (by kernel_rfl) (by kernel_rfl) (fun _ _ _ h => h) (Or.inl ⟨by rfl, ?_⟩) (by assumption) ?_
  rotate_left 1
  · (intro w hSw; (try dsimp only at hSw); go_simp <;> (with_reducible rfl))
  try simp only [Act.put, List.getElem_toArray, List.getElem_cons_succ, List.getElem_cons_zero, List.setIfInBounds_toArray, List.set_cons_zero, List.set_cons_succ]
  refine wpAnyH_take (i := 1) (v := ?_) rfl (by kernel_rfl) (by kernel_rfl) (by kernel_rfl) (fun _ _ _ h => h) (Or.inl ⟨by rfl, ?_⟩) (by assumption) ?_
  rotate_left 1
  · (intro w hSw; (try dsimp only at hSw); go_simp <;> (with_reducible rfl))
  try simp only [Act.put, List.getElem_toArray, List.getElem_cons_succ, List.getElem_cons_zero, List.setIfInBounds_toArray, List.set_cons_zero, List.set_cons_succ]
  refine wpAnyH_take (i := 2) (v := ?_) rfl (by kernel_rfl) (by kernel_rfl) (by kernel_rfl) (fun _ _ _ h => h) (Or.inl ⟨by rfl, ?_⟩) (by assumption) ?_
  rotate_left 1
  · (intro w hSw; (try dsimp only at hSw); go_simp <;> (with_reducible rfl))
  try simp only [Act.put, List.getElem_toArray, List.getElem_cons_succ, List.getElem_cons_zero, List.setIfInBounds_toArray, List.set_cons_zero, List.set_cons_succ]
  refine wpAnyH_take (i := 3) (v := ?_) rfl (by kernel_rfl) (by kernel_rfl) (by kernel_rfl) (fun _ _ _ h => h) (Or.inl ⟨by rfl, ?_⟩) (by assumption) ?_
  rotate_left 1
  · (intro w hSw; (try dsimp only at hSw); go_simp <;> (with_reducible rfl))
  try simp only [Act.put, List.getElem_toArray, List.getElem_cons_succ, List.getElem_cons_zero, List.setIfInBounds_toArray, List.set_cons_zero, List.set_cons_succ]
  refine wpAnyH_take (i := 4) (v := ?_) rfl (by kernel_rfl) (by kernel_rfl) (by kernel_rfl) (fun _ _ _ h => h) (Or.inl ⟨by rfl, ?_⟩) (by assumption) ?_
  rotate_left 1
  · (intro w hSw; (try dsimp only at hSw); go_simp <;> (with_reducible rfl))
  try simp only [Act.put, List.getElem_toArray, List.getElem_cons_succ, List.getElem_cons_zero, List.setIfInBounds_toArray, List.set_cons_zero, List.set_cons_succ]
  refine wpAnyH_take (i := 5) (v := ?_) rfl (by kernel_rfl) (by kernel_rfl) (by kernel_rfl) (fun _ _ _ h => h) (Or.inl ⟨by rfl, ?_⟩) (by assumption) ?_
  rotate_left 1
  · (intro w hSw; (try dsimp only at hSw); go_simp <;> (with_reducible rfl))
  try simp only [Act.put, List.getElem_toArray, List.getElem_cons_succ, List.getElem_cons_zero, List.setIfInBounds_toArray, List.set_cons_zero, List.set_cons_succ]
  refine wpAnyH_ready (rs := [6]) (by kernel_rfl) (by simp) ?_
  refine AllReadyH.cons rfl (fun K hK => ?_) AllReadyH.nil
  go_simp
  refine hK.out _ _ hH0 (fun hH1 => ?_)
  clear hK hH0
  try simp only [Act.put, List.getElem_toArray, List.getElem_cons_succ, List.getElem_cons_zero, List.setIfInBounds_toArray, List.set_cons_zero, List.set_cons_succ]
  refine wpAnyH_ready (rs := [7]) (by kernel_rfl) (by simp) ?_
  refine AllReadyH.cons rfl (fun K hK => ?_) AllReadyH.nil
  go_simp
  refine (held4 (CA.out _) hH1 hzd (Below.size BV)).mono ?_
  rintro e w'' ⟨rfl, hw, hzw⟩
  have y2 := hzw.c2; have y3 := hzw.c3; have y4 := hzw.f2; have y5 := hzw.f3
  (try go_wp2_with fail)
  refine hK.out _ _ hw (fun hH2 => ?_)
  clear hK hH1
  try simp only [Act.put, List.getElem_toArray, List.getElem_cons_succ, List.getElem_cons_zero, List.setIfInBounds_toArray, List.set_cons_zero, List.set_cons_succ]
  refine wpAnyH_take (i := 8) (v := ?_) rfl (by kernel_rfl) (by kernel_rfl) (by kernel_rfl) (fun _ _ _ h => h) (Or.inl ⟨by rfl, ?_⟩) (by assumption) ?_
  rotate_left 1
  · (intro w hSw; (try dsimp only at hSw); go_simp <;> (with_reducible rfl))
  try simp only [Act.put, List.getElem_toArray, List.getElem_cons_succ, List.getElem_cons_zero, List.setIfInBounds_toArray, List.set_cons_zero, List.set_cons_succ]
  refine wpAnyH_ready (rs := [9]) (by kernel_rfl) (by simp) ?_
  refine AllReadyH.cons rfl (fun K hK => ?_) AllReadyH.nil
  go_simp
  refine hK.out _ _ (below_put hH2 (Nat.le_refl _) _ _) (fun hH3 => ?_)
  clear hK hH2
  try simp only [Act.put, List.getElem_toArray, List.getElem_cons_succ, List.getElem_cons_zero, List.setIfInBounds_toArray, List.set_cons_zero, List.set_cons_succ]
  refine wpAnyH_done (by kernel_rfl) ?_ _
  refine NoPanic.normal ?_
  have hZ := f4_put (z' := .string ⟨x.toArray⟩) (t' := .string ⟨y.toArray⟩) hzw
  generalize ((w''.setCell ⟨w.heap.size, 2, none⟩ (.string ⟨x.toArray⟩)).setCell ⟨w.heap.size, 3, none⟩ (.string ⟨y.toArray⟩)) = Y at *
  clear y2 y3 y4 y5 hzd hzX hzw hw bX b6 q2 q3 hz4
  obtain ⟨r0, r1, r2, r3⟩ := hZ.rule
  have BY := BV.trans hH3
  have bY := Below.refl Y.heap.size Y
  clear hH3
  go_wp2_with fail
  all_goals (refine (CS.out _).mono ?_)
  all_goals (rintro e w8 ⟨rfl, b⟩)
  all_goals (have b8 := Below.more bY b)
  all_goals (have B8 := Below.more BY b8)
  all_goals (have L1 := l1.below B8)
  all_goals (have La := l2.below B8)
  all_goals (have Lb := fun e => (l3 e).below B8)
  all_goals (clear b)
  all_goals (go_wp2_with fail)
  all_goals (first | (with_reducible refine (bcat3 _ _ _ _ _ _ _ _ _ a s x y _ _ f1 f2 L1 La (by omega) (by omega)).mono ?_) | (with_reducible refine (bcat3 _ _ _ _ _ _ _ _ _ a s x y _ _ f1 f2 L1 (Lb (by omega)) (by omega) (by omega)).mono ?_))
  all_goals (rintro e w9 ⟨⟨p', c', rfl, hc', hL⟩, b⟩)
  all_goals (rw [hR.out] at hc' hL ⊢)
  all_goals (have B9 := Below.more B8 b)
  all_goals (have HL := Lib.hid hL)
  all_goals (clear b hL)
  all_goals (go_wp2_with fail)
  all_goals (go_ret2)
  all_goals (exact ⟨⟨p', c', rfl, hc', HL.out⟩, B9⟩)
end Go.Proofs.YtemnimbedmkagaaGreatDoor
