/- The walk of PostBack. -/
import Derived.Test.YtamibckbebifkaaGreatDoorSch
import Derived.Test.YtamibckbebifkaaGreatDoorRowCells
import Derived.Test.YtamibckbebifkaaGreatDoorWTells7
namespace Go.Proofs.YtamibckbebifkaaGreatDoor
open Go.RowKit
set_option linter.unusedSimpArgs false
set_option linter.unusedVariables false
variable {G : World → Prop}
set_option maxRecDepth 100000 in
set_option maxHeartbeats 4000000 in
theorem back7_0 (H : PostC G) (p : Option Addr) (c : Nat) (ls : List Ln) (q : Option Addr) (d : Nat) (l : List Ln) (r : Option Addr) (f : Nat) (m : List Ln) (w : World) (hg : G w)
    (CS1 : Hid (∀ V, Below w.heap.size w V → Calls Tryz.prog 7 #[.slice p ls.length c] V (GiveB V false))) :
    Calls Tryz.prog 5 #[.slice p ls.length c, .slice q l.length d, .slice r m.length f] w (GiveB w true) := by
  have HB := Lib.hid H; have HT := Lib.hid hg; clear H hg
  go_enter Tryz.func5, Tryz.ntmps5
  go_wp2_with fail
  have BW := Below.refl w.heap.size w
  have b0 : Below w.heap.size w w := Below.refl _ _
  refine (fixed7_any HB.out _ (HB.out.below HT.out b0)).mono ?_
  rintro e w1 ⟨rfl, b⟩
  have b1 := Below.more b0 b
  clear b
  go_wp2_with fail
  refine (CS1.out _ (Below.more BW b1)).mono ?_
  rintro e w2 ⟨rfl, b⟩
  have b2 := Below.more b1 b
  clear b
  go_wp2_with fail
  refine (fixed7_any HB.out _ (HB.out.below HT.out b2)).mono ?_
  rintro e w3 ⟨rfl, b⟩
  have b3 := Below.more b2 b
  clear b
  go_wp2_with fail
  go_ret
  exact ⟨rfl, Below.more BW b3⟩
set_option maxRecDepth 100000 in
set_option maxHeartbeats 4000000 in
theorem back7_1 (H : PostC G) (p : Option Addr) (c : Nat) (ls : List Ln) (q : Option Addr) (d : Nat) (l : List Ln) (r : Option Addr) (f : Nat) (m : List Ln) (w : World) (hg : G w)
    (CS1 : Hid (∀ V, Below w.heap.size w V → Calls Tryz.prog 7 #[.slice p ls.length c] V (GiveB V true)))
    (CS2 : Hid (∀ V, Below w.heap.size w V → Calls Tryz.prog 7 #[.slice q l.length d] V (GiveB V false))) :
    Calls Tryz.prog 5 #[.slice p ls.length c, .slice q l.length d, .slice r m.length f] w (GiveB w true) := by
  have HB := Lib.hid H; have HT := Lib.hid hg; clear H hg
  go_enter Tryz.func5, Tryz.ntmps5
  go_wp2_with fail
  have BW := Below.refl w.heap.size w
  have b0 : Below w.heap.size w w := Below.refl _ _
  refine (fixed7_any HB.out _ (HB.out.below HT.out b0)).mono ?_
  rintro e w1 ⟨rfl, b⟩
  have b1 := Below.more b0 b
  clear b
  go_wp2_with fail
  refine (CS1.out _ (Below.more BW b1)).mono ?_
  rintro e w2 ⟨rfl, b⟩
  have b2 := Below.more b1 b
  clear b
  go_wp2_with fail
  refine (CS2.out _ (Below.more BW b2)).mono ?_
  rintro e w3 ⟨rfl, b⟩
  have b3 := Below.more b2 b
  clear b
  go_wp2_with fail
  refine (fixed7_any HB.out _ (HB.out.below HT.out b3)).mono ?_
  rintro e w4 ⟨rfl, b⟩
  have b4 := Below.more b3 b
  clear b
  go_wp2_with fail
  go_ret
  exact ⟨rfl, Below.more BW b4⟩
set_option maxRecDepth 100000 in
set_option maxHeartbeats 4000000 in
theorem back7_2 (H : PostC G) (p : Option Addr) (c : Nat) (ls : List Ln) (q : Option Addr) (d : Nat) (l : List Ln) (r : Option Addr) (f : Nat) (m : List Ln) (w : World) (hg : G w)
    (CS1 : Hid (∀ V, Below w.heap.size w V → Calls Tryz.prog 7 #[.slice p ls.length c] V (GiveB V true)))
    (CS2 : Hid (∀ V, Below w.heap.size w V → Calls Tryz.prog 7 #[.slice q l.length d] V (GiveB V true)))
    (CS3 : Hid (∀ V, Below w.heap.size w V → Calls Tryz.prog 7 #[.slice r m.length f] V (GiveB V false))) :
    Calls Tryz.prog 5 #[.slice p ls.length c, .slice q l.length d, .slice r m.length f] w (GiveB w true) := by
  have HB := Lib.hid H; have HT := Lib.hid hg; clear H hg
  go_enter Tryz.func5, Tryz.ntmps5
  go_wp2_with fail
  have BW := Below.refl w.heap.size w
  have b0 : Below w.heap.size w w := Below.refl _ _
  refine (fixed7_any HB.out _ (HB.out.below HT.out b0)).mono ?_
  rintro e w1 ⟨rfl, b⟩
  have b1 := Below.more b0 b
  clear b
  go_wp2_with fail
  refine (CS1.out _ (Below.more BW b1)).mono ?_
  rintro e w2 ⟨rfl, b⟩
  have b2 := Below.more b1 b
  clear b
  go_wp2_with fail
  refine (CS2.out _ (Below.more BW b2)).mono ?_
  rintro e w3 ⟨rfl, b⟩
  have b3 := Below.more b2 b
  clear b
  go_wp2_with fail
  refine (CS3.out _ (Below.more BW b3)).mono ?_
  rintro e w4 ⟨rfl, b⟩
  have b4 := Below.more b3 b
  clear b
  go_wp2_with fail
  refine (fixed7_any HB.out _ (HB.out.below HT.out b4)).mono ?_
  rintro e w5 ⟨rfl, b⟩
  have b5 := Below.more b4 b
  clear b
  go_wp2_with fail
  go_ret
  exact ⟨rfl, Below.more BW b5⟩
set_option maxRecDepth 100000 in
set_option maxHeartbeats 4000000 in
theorem back7_3 (H : PostC G) (p : Option Addr) (c : Nat) (ls : List Ln) (q : Option Addr) (d : Nat) (l : List Ln) (r : Option Addr) (f : Nat) (m : List Ln) (w : World) (hg : G w)
    (CS1 : Hid (∀ V, Below w.heap.size w V → Calls Tryz.prog 7 #[.slice p ls.length c] V (GiveB V true)))
    (CS2 : Hid (∀ V, Below w.heap.size w V → Calls Tryz.prog 7 #[.slice q l.length d] V (GiveB V true)))
    (CS3 : Hid (∀ V, Below w.heap.size w V → Calls Tryz.prog 7 #[.slice r m.length f] V (GiveB V true)))
    (CS4 : Hid (∀ V, Below w.heap.size w V → Calls Tryz.prog 16 #[.slice p ls.length c] V (GiveB V false))) :
    Calls Tryz.prog 5 #[.slice p ls.length c, .slice q l.length d, .slice r m.length f] w (GiveB w true) := by
  have HB := Lib.hid H; have HT := Lib.hid hg; clear H hg
  go_enter Tryz.func5, Tryz.ntmps5
  go_wp2_with fail
  have BW := Below.refl w.heap.size w
  have b0 : Below w.heap.size w w := Below.refl _ _
  refine (fixed7_any HB.out _ (HB.out.below HT.out b0)).mono ?_
  rintro e w1 ⟨rfl, b⟩
  have b1 := Below.more b0 b
  clear b
  go_wp2_with fail
  refine (CS1.out _ (Below.more BW b1)).mono ?_
  rintro e w2 ⟨rfl, b⟩
  have b2 := Below.more b1 b
  clear b
  go_wp2_with fail
  refine (CS2.out _ (Below.more BW b2)).mono ?_
  rintro e w3 ⟨rfl, b⟩
  have b3 := Below.more b2 b
  clear b
  go_wp2_with fail
  refine (CS3.out _ (Below.more BW b3)).mono ?_
  rintro e w4 ⟨rfl, b⟩
  have b4 := Below.more b3 b
  clear b
  go_wp2_with fail
  refine (CS4.out _ (Below.more BW b4)).mono ?_
  rintro e w5 ⟨rfl, b⟩
  have b5 := Below.more b4 b
  clear b
  go_wp2_with fail
  refine (fixed7_any HB.out _ (HB.out.below HT.out b5)).mono ?_
  rintro e w6 ⟨rfl, b⟩
  have b6 := Below.more b5 b
  clear b
  go_wp2_with fail
  go_ret
  exact ⟨rfl, Below.more BW b6⟩
set_option maxRecDepth 100000 in
set_option maxHeartbeats 4000000 in
theorem back7_bad1 (H : PostC G) (p : Option Addr) (c : Nat) (ls : List Ln) (q : Option Addr) (d : Nat) (l : List Ln) (r : Option Addr) (f : Nat) (m : List Ln) (w : World) (hg : G w) (C1 : List Ln) (R2 : List Ln × Int)
    (CS1 : Hid (∀ V, Below w.heap.size w V → Calls Tryz.prog 7 #[.slice p ls.length c] V (GiveB V true)))
    (CS2 : Hid (∀ V, Below w.heap.size w V → Calls Tryz.prog 7 #[.slice q l.length d] V (GiveB V true)))
    (CS3 : Hid (∀ V, Below w.heap.size w V → Calls Tryz.prog 7 #[.slice r m.length f] V (GiveB V true)))
    (CS4 : Hid (∀ V, Below w.heap.size w V → Calls Tryz.prog 16 #[.slice p ls.length c] V (GiveB V true)))
    (CA1 : Hid (∀ V, Below w.heap.size w V → G V → Calls Tryz.prog 9 #[.slice p ls.length c, .slice q l.length d, .bool false] V (GiveLE V (([], 70)))))
    (CA2 : Hid (∀ V, Below w.heap.size w V → G V → ∀ p' c', (([] : List Ln)).length ≤ c' → Lns V p' (([] : List Ln)) → Calls Tryz.prog 9 #[.slice p' (([] : List Ln)).length c', .slice r m.length f, .bool false] V (GiveLE V (R2)))) :
    Calls Tryz.prog 5 #[.slice p ls.length c, .slice q l.length d, .slice r m.length f] w (GiveB w true) := by
  have HB := Lib.hid H; have HT := Lib.hid hg; clear H hg
  go_enter Tryz.func5, Tryz.ntmps5
  go_wp2_with fail
  have BW := Below.refl w.heap.size w
  have b0 : Below w.heap.size w w := Below.refl _ _
  refine (fixed7_any HB.out _ (HB.out.below HT.out b0)).mono ?_
  rintro e w1 ⟨rfl, b⟩
  have b1 := Below.more b0 b
  clear b
  go_wp2_with fail
  refine (CS1.out _ (Below.more BW b1)).mono ?_
  rintro e w2 ⟨rfl, b⟩
  have b2 := Below.more b1 b
  clear b
  go_wp2_with fail
  refine (CS2.out _ (Below.more BW b2)).mono ?_
  rintro e w3 ⟨rfl, b⟩
  have b3 := Below.more b2 b
  clear b
  go_wp2_with fail
  refine (CS3.out _ (Below.more BW b3)).mono ?_
  rintro e w4 ⟨rfl, b⟩
  have b4 := Below.more b3 b
  clear b
  go_wp2_with fail
  refine (CS4.out _ (Below.more BW b4)).mono ?_
  rintro e w5 ⟨rfl, b⟩
  have b5 := Below.more b4 b
  clear b
  go_wp2_with fail
  refine (CA1.out _ (Below.more BW b5) (HB.out.below HT.out b5)).mono ?_
  rintro e U6 ⟨⟨pr1, c1, rfl, hc1, hl1⟩, b⟩
  have bU := Below.more b5 b
  clear b
  replace BW := Below.more BW bU
  replace HT := Lib.hid (HB.out.below HT.out bU)
  have L1 := Lib.hid hl1
  clear hl1 bU
  have b6 := Below.refl U6.heap.size U6
  go_wp2_with fail
  refine (CA2.out _ (Below.more BW b6) (HB.out.below HT.out b6) _ _ hc1 (L1.out.below b6)).mono ?_
  rintro e U7 ⟨⟨pr2, c2, rfl, hc2, hl2⟩, b⟩
  have bU := Below.more b6 b
  clear b
  replace L1 := Lib.hid (L1.out.below bU)
  replace BW := Below.more BW bU
  replace HT := Lib.hid (HB.out.below HT.out bU)
  have L2 := Lib.hid hl2
  clear hl2 bU
  have b7 := Below.refl U7.heap.size U7
  go_wp2_with fail
  go_ret
  exact ⟨rfl, Below.more BW b7⟩
set_option maxRecDepth 100000 in
set_option maxHeartbeats 4000000 in
theorem back7_bad2 (H : PostC G) (p : Option Addr) (c : Nat) (ls : List Ln) (q : Option Addr) (d : Nat) (l : List Ln) (r : Option Addr) (f : Nat) (m : List Ln) (w : World) (hg : G w) (C1 : List Ln) (R2 : List Ln × Int)
    (CS1 : Hid (∀ V, Below w.heap.size w V → Calls Tryz.prog 7 #[.slice p ls.length c] V (GiveB V true)))
    (CS2 : Hid (∀ V, Below w.heap.size w V → Calls Tryz.prog 7 #[.slice q l.length d] V (GiveB V true)))
    (CS3 : Hid (∀ V, Below w.heap.size w V → Calls Tryz.prog 7 #[.slice r m.length f] V (GiveB V true)))
    (CS4 : Hid (∀ V, Below w.heap.size w V → Calls Tryz.prog 16 #[.slice p ls.length c] V (GiveB V true)))
    (CA1 : Hid (∀ V, Below w.heap.size w V → G V → Calls Tryz.prog 9 #[.slice p ls.length c, .slice q l.length d, .bool false] V (GiveLE V ((C1, 0)))))
    (CA2 : Hid (∀ V, Below w.heap.size w V → G V → ∀ p' c', (C1).length ≤ c' → Lns V p' (C1) → Calls Tryz.prog 9 #[.slice p' (C1).length c', .slice r m.length f, .bool false] V (GiveLE V (([], 70))))) :
    Calls Tryz.prog 5 #[.slice p ls.length c, .slice q l.length d, .slice r m.length f] w (GiveB w true) := by
  have HB := Lib.hid H; have HT := Lib.hid hg; clear H hg
  go_enter Tryz.func5, Tryz.ntmps5
  go_wp2_with fail
  have BW := Below.refl w.heap.size w
  have b0 : Below w.heap.size w w := Below.refl _ _
  refine (fixed7_any HB.out _ (HB.out.below HT.out b0)).mono ?_
  rintro e w1 ⟨rfl, b⟩
  have b1 := Below.more b0 b
  clear b
  go_wp2_with fail
  refine (CS1.out _ (Below.more BW b1)).mono ?_
  rintro e w2 ⟨rfl, b⟩
  have b2 := Below.more b1 b
  clear b
  go_wp2_with fail
  refine (CS2.out _ (Below.more BW b2)).mono ?_
  rintro e w3 ⟨rfl, b⟩
  have b3 := Below.more b2 b
  clear b
  go_wp2_with fail
  refine (CS3.out _ (Below.more BW b3)).mono ?_
  rintro e w4 ⟨rfl, b⟩
  have b4 := Below.more b3 b
  clear b
  go_wp2_with fail
  refine (CS4.out _ (Below.more BW b4)).mono ?_
  rintro e w5 ⟨rfl, b⟩
  have b5 := Below.more b4 b
  clear b
  go_wp2_with fail
  refine (CA1.out _ (Below.more BW b5) (HB.out.below HT.out b5)).mono ?_
  rintro e U6 ⟨⟨pr1, c1, rfl, hc1, hl1⟩, b⟩
  have bU := Below.more b5 b
  clear b
  replace BW := Below.more BW bU
  replace HT := Lib.hid (HB.out.below HT.out bU)
  have L1 := Lib.hid hl1
  clear hl1 bU
  have b6 := Below.refl U6.heap.size U6
  go_wp2_with fail
  refine (CA2.out _ (Below.more BW b6) (HB.out.below HT.out b6) _ _ hc1 (L1.out.below b6)).mono ?_
  rintro e U7 ⟨⟨pr2, c2, rfl, hc2, hl2⟩, b⟩
  have bU := Below.more b6 b
  clear b
  replace L1 := Lib.hid (L1.out.below bU)
  replace BW := Below.more BW bU
  replace HT := Lib.hid (HB.out.below HT.out bU)
  have L2 := Lib.hid hl2
  clear hl2 bU
  have b7 := Below.refl U7.heap.size U7
  go_wp2_with fail
  go_ret
  exact ⟨rfl, Below.more BW b7⟩
theorem neg_more {l : List Ln} {k : Nat} {x : Ln} (hx : l[k]? = some x) : negL (l.take (k + 1)) = negL (l.take k) ++ [(x.1, negR x.2)] := by
  unfold negL
  rw [List.take_add_one, hx, List.map_append]; rfl
set_option maxRecDepth 100000 in
set_option maxHeartbeats 4000000 in
theorem back7_main (H : PostC G) (p : Option Addr) (c : Nat) (ls : List Ln) (q : Option Addr) (d : Nat) (l : List Ln) (r : Option Addr) (f : Nat) (m : List Ln) (w : World) (hg : G w) (hL : Lns w p ls) (hQ : Lns w q l) (hR : Lns w r m) (C1 C2 : List Ln) (h0 : ls.length ≤ 4611686018427387904) (h2 : C2.length ≤ 4611686018427387904) (hl : l.length ≤ 1000) (hm : m.length ≤ 1000) (lm : List Ln) (HLM : Hid (lm = l ++ m))
    (CS1 : Hid (∀ V, Below w.heap.size w V → Calls Tryz.prog 7 #[.slice p ls.length c] V (GiveB V true)))
    (CS2 : Hid (∀ V, Below w.heap.size w V → Calls Tryz.prog 7 #[.slice q l.length d] V (GiveB V true)))
    (CS3 : Hid (∀ V, Below w.heap.size w V → Calls Tryz.prog 7 #[.slice r m.length f] V (GiveB V true)))
    (CS4 : Hid (∀ V, Below w.heap.size w V → Calls Tryz.prog 16 #[.slice p ls.length c] V (GiveB V true)))
    (CA1 : Hid (∀ V, Below w.heap.size w V → G V → Calls Tryz.prog 9 #[.slice p ls.length c, .slice q l.length d, .bool false] V (GiveLE V (C1, 0))))
    (CA2 : Hid (∀ V, Below w.heap.size w V → G V → ∀ p' c', (C1).length ≤ c' → Lns V p' (C1) → Calls Tryz.prog 9 #[.slice p' (C1).length c', .slice r m.length f, .bool false] V (GiveLE V (C2, 0))))
    (CN : Hid (∀ (k : Nat) (x : Ln), l[k]? = some x → ∀ V, Calls Tryz.prog 21 #[.agg #[.string ⟨x.2.1.toArray⟩, .string ⟨x.2.2.toArray⟩]] V (GiveR V (negR x.2))))
    (CA3 : Hid (∀ V, Below w.heap.size w V → G V → ∀ p' c' q' d', C1.length ≤ c' → (negL l).length ≤ d' → Lns V p' C1 → Lns V q' (negL l) → Calls Tryz.prog 9 #[.slice p' C1.length c', .slice q' (negL l).length d', .bool false] V (GiveLE V (ls, 0))))
    (CA4 : Hid (∀ V, Below w.heap.size w V → G V → ∀ q' d', lm.length ≤ d' → Lns V q' lm → Calls Tryz.prog 9 #[.slice p ls.length c, .slice q' lm.length d', .bool false] V (GiveLE V (C2, 0)))) :
    Calls Tryz.prog 5 #[.slice p ls.length c, .slice q l.length d, .slice r m.length f] w (GiveB w true) := by
  have HL := Lib.hid hL; have HQ := Lib.hid hQ; have HR := Lib.hid hR; clear hL hQ hR
  have HB := Lib.hid H; have HT := Lib.hid hg; clear H hg
  go_enter Tryz.func5, Tryz.ntmps5
  go_wp2_with fail
  have BW := Below.refl w.heap.size w
  have b0 : Below w.heap.size w w := Below.refl _ _
  refine (fixed7_any HB.out _ (HB.out.below HT.out b0)).mono ?_
  rintro e w1 ⟨rfl, b⟩
  have b1 := Below.more b0 b
  clear b
  go_wp2_with fail
  refine (CS1.out _ (Below.more BW b1)).mono ?_
  rintro e w2 ⟨rfl, b⟩
  have b2 := Below.more b1 b
  clear b
  go_wp2_with fail
  refine (CS2.out _ (Below.more BW b2)).mono ?_
  rintro e w3 ⟨rfl, b⟩
  have b3 := Below.more b2 b
  clear b
  go_wp2_with fail
  refine (CS3.out _ (Below.more BW b3)).mono ?_
  rintro e w4 ⟨rfl, b⟩
  have b4 := Below.more b3 b
  clear b
  go_wp2_with fail
  refine (CS4.out _ (Below.more BW b4)).mono ?_
  rintro e w5 ⟨rfl, b⟩
  have b5 := Below.more b4 b
  clear b
  go_wp2_with fail
  refine (CA1.out _ (Below.more BW b5) (HB.out.below HT.out b5)).mono ?_
  rintro e U6 ⟨⟨pr1, c1, rfl, hc1, hl1⟩, b⟩
  have bU := Below.more b5 b
  clear b
  replace BW := Below.more BW bU
  replace HT := Lib.hid (HB.out.below HT.out bU)
  have L1 := Lib.hid hl1
  clear hl1 bU
  have b6 := Below.refl U6.heap.size U6
  go_wp2_with fail
  refine (CA2.out _ (Below.more BW b6) (HB.out.below HT.out b6) _ _ hc1 (L1.out.below b6)).mono ?_
  rintro e U7 ⟨⟨pr2, c2, rfl, hc2, hl2⟩, b⟩
  have bU := Below.more b6 b
  clear b
  replace L1 := Lib.hid (L1.out.below bU)
  replace BW := Below.more BW bU
  replace HT := Lib.hid (HB.out.below HT.out bU)
  have L2 := Lib.hid hl2
  clear hl2 bU
  have b7 := Below.refl U7.heap.size U7
  clear CS1 CS2 CS3 CS4 CA1 CA2 b7
  go_wp2_with fail
  go_loopw [11, 12] (fun out i wr => ∃ (k : Nat) (fs : List Ln), k ≤ l.length ∧ i = .int .i64 k ∧ Own U7.heap.size wr out fs ∧ Below U7.heap.size U7 wr ∧ Hid (fs = negL (l.take k))) (fun _ i _ => l.length - (intOf i).toNat)
  case atStart => exact ⟨0, [], Nat.zero_le _, rfl, own_empty U7 (Nat.le_refl _), Below.step _ (Below.refl _ _), rfl⟩
  case round =>
    obtain ⟨k, fs, hk, rfl, hown, hw, HF⟩ := hrel
    by_cases hlt : k < l.length
    · obtain ⟨⟨⟨a, s⟩, ⟨n, dd⟩⟩, hx⟩ : ∃ x, l[k]? = some x := ⟨_, List.getElem?_eq_getElem hlt⟩
      obtain ⟨b, o, rfl, k0, k1, k2, k3⟩ := (HQ.out.below BW).rule hx
      have cn := CN.out k _ hx
      have hneg := neg_more hx
      dsimp only at cn
      have hkeep : ∃ n' d', negR (n, dd) = (n', d') := ⟨_, _, rfl⟩
      obtain ⟨n', d', hnd⟩ := hkeep
      rw [hnd] at cn hneg
      have HT' : Hid (fs ++ [((a, s), (n', d'))] = negL (l.take (k + 1))) := Lib.hid (by rw [hneg, HF.out])
      have hfs : fs.length ≤ 3000000 := by rw [HF.out]; unfold negL; rw [List.length_map, List.length_take]; omega
      have CNk := Lib.hid cn
      clear cn hneg hnd hx CN
      go_wp2_with fail
      refine wp_region_noPanic ?_
      refine wp_region_held_drew (S := fun w' => Below U7.heap.size U7 w') (by kernel_rfl) (hw.drew) (fun hH0 => ?_)
      have hOd := World.ownsRow.drew hown
      refine sch_in [0, 1, 2, 3, 4, 5, 6, 7, 8, 9, 10, 11, 12, 13, 14, 15] ?_
      iterate 16 (refine sch_yes (v := ?_) rfl (by kernel_rfl) (by rfl) ?_ (by assumption) ?_; rotate_left 1; (· (intro w hSw; (try dsimp only at hSw); go_simp <;> (with_reducible rfl))); try simp only [Act.put, List.getElem_toArray, List.getElem_cons_succ, List.getElem_cons_zero, List.setIfInBounds_toArray, List.set_cons_zero, List.set_cons_succ])
      refine sch_out ?_
      refine wpAnyH_ready (rs := [16]) (by kernel_rfl) (by simp) ?_
      refine AllReadyH.cons rfl (fun K hK => ?_) AllReadyH.nil
      go_simp
      refine (heldO (CNk.out _) hH0 hOd (Nat.le_refl _)).mono ?_
      rintro e w'' ⟨rfl, hw2, hO2⟩
      (try go_wp2_with fail)
      refine hK.out _ _ hw2 (fun hH1 => ?_)
      clear hK hH0 hOd
      try simp only [Act.put, List.getElem_toArray, List.getElem_cons_succ, List.getElem_cons_zero, List.setIfInBounds_toArray, List.set_cons_zero, List.set_cons_succ]
      refine wpAnyH_take (i := 17) (v := ?_) rfl (by kernel_rfl) (by kernel_rfl) (by kernel_rfl) (fun _ _ _ h => h) (Or.inl ⟨by rfl, ?_⟩) (by assumption) ?_
      rotate_left 1
      · (intro w hSw; (try dsimp only at hSw); go_simp <;> (with_reducible rfl))
      try simp only [Act.put, List.getElem_toArray, List.getElem_cons_succ, List.getElem_cons_zero, List.setIfInBounds_toArray, List.set_cons_zero, List.set_cons_succ]
      refine wpAnyH_ready (rs := [18]) (by kernel_rfl) (by simp) ?_
      refine AllReadyH.cons rfl (fun K hK => ?_) AllReadyH.nil
      go_simp
      refine hK.out _ _ (Below.alloc hH1 (Below.size hH1) _) (fun hH2 => ?_)
      clear hK hw2
      try simp only [Act.put, List.getElem_toArray, List.getElem_cons_succ, List.getElem_cons_zero, List.setIfInBounds_toArray, List.set_cons_zero, List.set_cons_succ]
      have L3 := lnsOne w'' a s n' d' 33
      have hO3 := World.ownsRow.alloc hO2 (.cells #[.string ⟨a.toArray⟩, .string ⟨s.toArray⟩, .string ⟨n'.toArray⟩, .string ⟨d'.toArray⟩] 33)
      generalize w''.alloc (.cells #[.string ⟨a.toArray⟩, .string ⟨s.toArray⟩, .string ⟨n'.toArray⟩, .string ⟨d'.toArray⟩] 33) = w3 at *
      refine wpAnyH_ready (rs := [19]) (by kernel_rfl) (by simp) ?_
      refine AllReadyH.cons rfl (fun K hK => ?_) AllReadyH.nil
      rw [if_pos (by rfl)]
      refine wp_append_lns _ _ 22 rfl U7.heap.size Tryz.underlying22 _ fs rfl hO3 (some ⟨w''.heap.size, 0, none⟩) [((a, s), (n', d'))] 1 rfl L3 hfs (show 1 ≤ 3000000 by decide) (Below.size hH2) ?_
      intro v' w4 hO4 hB4
      refine hK.out _ _ (hH2.trans hB4) (fun hH3 => ?_)
      clear hK
      try simp only [Act.put, List.getElem_toArray, List.getElem_cons_succ, List.getElem_cons_zero, List.setIfInBounds_toArray, List.set_cons_zero, List.set_cons_succ]
      refine wpAnyH_take (i := 20) (v := ?_) rfl (by kernel_rfl) (by kernel_rfl) (by kernel_rfl) (fun _ _ _ h => h) (Or.inl ⟨by rfl, ?_⟩) (by assumption) ?_
      rotate_left 1
      · (intro w hSw; (try dsimp only at hSw); go_simp <;> (with_reducible rfl))
      try simp only [Act.put, List.getElem_toArray, List.getElem_cons_succ, List.getElem_cons_zero, List.setIfInBounds_toArray, List.set_cons_zero, List.set_cons_succ]
      refine wpAnyH_done (by kernel_rfl) ?_ _
      refine NoPanic.normal ?_
      have X := Lib.hid hO4; have Y := Lib.hid hH3
      clear hO4 hH3 hH2 hH1 hB4 hO3 hO2 L3
      go_wp2_with fail
      go_roundw
      case rel => exact ⟨k + 1, _, hlt, by go_num, X.out, Y.out, HT'.out⟩
      case measure => simp [intOf]; omega
    · obtain rfl : k = l.length := by omega
      rw [List.take_length] at HF
      rw [HF.out] at hown
      obtain ⟨pb, cb, rfl, hcb, hLb, _⟩ := own_lns hown
      have LB := Lib.hid hLb
      clear hown hLb CN HF
      have BX := Below.more BW hw
      have HT2 := Lib.hid (HB.out.below HT.out hw)
      have L1 := Lib.hid (L1.out.below hw)
      have L2 := Lib.hid (L2.out.below hw)
      clear BW hw HT
      have HT := HT2
      clear HT2
      have BW := BX
      clear BX
      have b20 := Below.refl wr.heap.size wr
      go_wp2_with fail
      refine (CA3.out _ (Below.more BW b20) (HB.out.below HT.out b20) _ _ _ _ hc1 hcb (L1.out.below b20) (LB.out.below b20)).mono ?_
      rintro e U21 ⟨⟨pr3, c3, rfl, hc3, hl3⟩, b⟩
      have bU := Below.more b20 b
      clear b
      replace L1 := Lib.hid (L1.out.below bU)
      replace L2 := Lib.hid (L2.out.below bU)
      replace LB := Lib.hid (LB.out.below bU)
      replace BW := Below.more BW bU
      replace HT := Lib.hid (HB.out.below HT.out bU)
      have L3 := Lib.hid hl3
      clear hl3 bU
      have b21 := Below.refl U21.heap.size U21
      clear CA3
      go_wp2_with (at_builtin; refine halt ?_)
      show wpList _ _ _ _ _ _
      refine wpList_append_lns rfl _ _ 22 rfl U21.heap.size Tryz.underlying22 _ [] rfl (own_empty U21 (Nat.le_refl _)) q l d rfl (HQ.out.below (Below.more BW (Below.step _ (Below.refl _ _)))) (by decide) (by omega) (Below.size (Below.step _ (Below.refl _ _))) ?_
      intro v1 w31 o1 h1
      replace h1 : Below U21.heap.size U21 w31 := (Below.step _ (Below.refl _ _)).trans h1
      go_wp2_with (at_builtin; refine halt ?_)
      show wpList _ _ _ _ _ _
      refine wpList_append_lns rfl _ _ 22 rfl U21.heap.size Tryz.underlying22 _ ([] ++ l) rfl o1 r m f rfl (HR.out.below (Below.more BW h1)) (by rw [List.nil_append]; omega) (by omega) (Below.size h1) ?_
      intro v2 w32 o2 h2
      rw [List.nil_append, ← HLM.out] at o2
      replace h2 : Below U21.heap.size U21 w32 := h1.trans h2
      obtain ⟨pj, cj, rfl, hcj, hLj, _⟩ := own_lns o2
      clear o1 o2 h1
      replace L1 := Lib.hid (L1.out.below h2)
      replace L2 := Lib.hid (L2.out.below h2)
      replace LB := Lib.hid (LB.out.below h2)
      replace L3 := Lib.hid (L3.out.below h2)
      replace BW := Below.more BW h2
      replace HT := Lib.hid (HB.out.below HT.out h2)
      have LJ := Lib.hid hLj
      clear hLj h2
      have b40 := Below.refl w32.heap.size w32
      go_wp2_with fail
      refine (CA4.out _ (Below.more BW b40) (HB.out.below HT.out b40) _ _ hcj (LJ.out.below b40)).mono ?_
      rintro e U41 ⟨⟨pr4, c4, rfl, hc4, hl4⟩, b⟩
      have bU := Below.more b40 b
      clear b
      replace L1 := Lib.hid (L1.out.below bU)
      replace L2 := Lib.hid (L2.out.below bU)
      replace LB := Lib.hid (LB.out.below bU)
      replace L3 := Lib.hid (L3.out.below bU)
      replace LJ := Lib.hid (LJ.out.below bU)
      replace BW := Below.more BW bU
      replace HT := Lib.hid (HB.out.below HT.out bU)
      have L4 := Lib.hid hl4
      clear hl4 bU
      have b41 := Below.refl U41.heap.size U41
      go_wp2_with fail
      refine (same_rows _ _ _ _ ls _ h0 (L3.out.below b41) (HL.out.below (Below.more BW b41))).mono ?_
      rintro e w42 ⟨rfl, b⟩
      have b42 := Below.more b41 b
      clear b
      go_wp2_with fail
      refine (same_rows _ _ _ _ C2 _ h2 (L4.out.below b42) (L2.out.below b42)).mono ?_
      rintro e w43 ⟨rfl, b⟩
      have b43 := Below.more b42 b
      clear b
      go_wp2_with fail
      go_ret
      exact ⟨rfl, Below.more BW b43⟩
theorem lensum (ls l : List Ln) (h : Good ls) (hb : balB l = true) : (addAll ls l).length ≤ ls.length + l.length := addAll_len h (balB_iff.1 hb).1
theorem back7_any (H : PostC G) (p : Option Addr) (c : Nat) (ls : List Ln) (q : Option Addr) (d : Nat) (l : List Ln) (r : Option Addr) (f : Nat) (m : List Ln) (w : World) (hc : ls.length ≤ c) (hd : l.length ≤ d) (hf : m.length ≤ f) (n1 : ls.length ≤ 4611686018427387904) (n2 : l.length ≤ 4611686018427387904) (n3 : m.length ≤ 4611686018427387904) (hL : Lns w p ls) (hQ : Lns w q l) (hR : Lns w r m) (hg : G w) :
    Calls Tryz.prog 5 #[.slice p ls.length c, .slice q l.length d, .slice r m.length f] w (GiveB w true) := by
  have c1 := fun V (hv : Below w.heap.size w V) => rbsmall_any p c ls V hc n1 (hL.below hv)
  have c2 := fun V (hv : Below w.heap.size w V) => rbsmall_any q d l V hd n2 (hQ.below hv)
  have c3 := fun V (hv : Below w.heap.size w V) => rbsmall_any r f m V hf n3 (hR.below hv)
  cases h1 : smB ls with
  | false => rw [h1] at c1; exact back7_0 H p c ls q d l r f m w hg (Lib.hid c1)
  | true =>
  rw [h1] at c1
  cases h2 : smB l with
  | false => rw [h2] at c2; exact back7_1 H p c ls q d l r f m w hg (Lib.hid c1) (Lib.hid c2)
  | true =>
  rw [h2] at c2
  cases h3 : smB m with
  | false => rw [h3] at c3; exact back7_2 H p c ls q d l r f m w hg (Lib.hid c1) (Lib.hid c2) (Lib.hid c3)
  | true =>
  rw [h3] at c3
  obtain ⟨s1, k1⟩ := smB_iff.1 h1
  obtain ⟨s2, k2⟩ := smB_iff.1 h2
  obtain ⟨s3, k3⟩ := smB_iff.1 h3
  have z1 : ∀ x ∈ ls, SzF x := fun x hx => shL_fit (s1 x hx)
  have z2 : ∀ x ∈ l, SzF x := fun x hx => shL_fit (s2 x hx)
  have z3 : ∀ x ∈ m, SzF x := fun x hx => shL_fit (s3 x hx)
  have c4 := fun V (hv : Below w.heap.size w V) => rbmay_any p c ls V hc (by omega) (fun x hx => (z1 x hx).szL) (hL.below hv)
  cases hm : mayB ls with
  | false => rw [hm] at c4; exact back7_3 H p c ls q d l r f m w hg (Lib.hid c1) (Lib.hid c2) (Lib.hid c3) (Lib.hid c4)
  | true =>
  rw [hm] at c4
  have g := good_iff.1 hm
  have sA : ∀ x ∈ ls ++ (l ++ m), shL x = true := fun x hx => (List.mem_append.1 hx).elim (s1 x) fun hx => (List.mem_append.1 hx).elim (s2 x) (s3 x)
  have nA : (ls ++ (l ++ m)).length ≤ 140 := by rw [List.length_append, List.length_append]; omega
  have i1 : ∀ x ∈ ls, x ∈ ls ++ (l ++ m) := fun x hx => List.mem_append.2 (.inl hx)
  have i2 : ∀ x ∈ l, x ∈ ls ++ (l ++ m) := fun x hx => List.mem_append.2 (.inr (List.mem_append.2 (.inl hx)))
  have i3 : ∀ x ∈ m, x ∈ ls ++ (l ++ m) := fun x hx => List.mem_append.2 (.inr (List.mem_append.2 (.inr hx)))
  have way1 : Way (Dp (ls ++ (l ++ m))) Ms ls l := small_way s1 s2 i1 i2 sA nA (by omega)
  have ca1 := fun V (hv : Below w.heap.size w V) (hgv : G V) => H.apply p c ls q d l false _ _ V hc hd (by omega) (by omega) z1 z2 way1 (hL.below hv) (hQ.below hv) hgv
  cases b1 : balB l with
  | false =>
    have e : applyB ls l false = ([], 70) := by unfold applyB; rw [hm, b1]; rfl
    rw [e] at ca1
    exact back7_bad1 H p c ls q d l r f m w hg [] (applyB [] m false) (Lib.hid c1) (Lib.hid c2) (Lib.hid c3) (Lib.hid c4) (Lib.hid ca1)
      (Lib.hid fun V hv hgv p' c' hc' hL' => H.apply p' c' [] r f m false (Dp (ls ++ (l ++ m))) Ms V hc' hf (by decide) (by omega) (fun _ h => by cases h) z3 (small_way (fun _ h => by cases h) s3 (fun _ h => by cases h) i3 sA nA (by omega)) hL' (hR.below hv) hgv)
  | true =>
  have e1 := applyB_free g b1
  rw [e1] at ca1
  obtain ⟨ok1, _⟩ := balB_iff.1 b1
  have gA := (addAll_good g ok1).1
  have lA := lensum ls l g b1
  have tl := small_tame s2 i2 fun x hx => ok_rat (ok1 x hx)
  have tA : Tame (Dp (ls ++ (l ++ m))) (Ms * (l.length + 1)) (addAll ls l) := good_tame gA fun k => addAll_bd (Dp_pos _) g ok1 (way1.t1 g) tl k
  have fA : ∀ x ∈ addAll ls l, SzF x := by
    have h := way1.fit g ok1 l.length
    rw [List.take_length] at h; exact h
  have big : ∀ k : Nat, k ≤ 140 → Sized (Dp (ls ++ (l ++ m))) (Ms * (l.length + 1) * (k + 1)) := fun k hk => by
    rw [Nat.mul_assoc]
    exact small_sized sA nA (Nat.le_trans (Nat.mul_le_mul (show l.length + 1 ≤ 141 by omega) (show k + 1 ≤ 141 by omega)) (by decide))
  have big2 : ∀ n : Nat, n ≤ 60 → Sized (Dp (ls ++ (l ++ m))) (Ms * (l.length + 1) * (2 * (n + 1))) := fun n hn => by
    have k := big (2 * n + 1) (by omega)
    rw [show 2 * n + 1 + 1 = 2 * (n + 1) by omega] at k
    exact k
  have up : ∀ {L : List Ln}, Tame (Dp (ls ++ (l ++ m))) Ms L → Tame (Dp (ls ++ (l ++ m))) (Ms * (l.length + 1)) L := fun h x hx => (h x hx).mono (Nat.le_mul_of_pos_right _ (Nat.succ_pos _))
  have way2 : Way (Dp (ls ++ (l ++ m))) (Ms * (l.length + 1)) (addAll ls l) m := ⟨big2 _ (by omega), fun _ => tA, fun ho => up (small_tame s3 i3 fun x hx => ok_rat (ho x hx))⟩
  have ca2 := fun V (hv : Below w.heap.size w V) (hgv : G V) (p' : Option Addr) (c' : Nat) (hc' : (addAll ls l).length ≤ c') (hL' : Lns V p' (addAll ls l)) => H.apply p' c' (addAll ls l) r f m false _ _ V hc' hf (by omega) (by omega) fA z3 way2 hL' (hR.below hv) hgv
  cases b2 : balB m with
  | false =>
    have e : applyB (addAll ls l) m false = ([], 70) := by unfold applyB; rw [good_iff.2 gA, b2]; rfl
    rw [e] at ca2
    exact back7_bad2 H p c ls q d l r f m w hg (addAll ls l) ([], 0) (Lib.hid c1) (Lib.hid c2) (Lib.hid c3) (Lib.hid c4) (Lib.hid ca1) (Lib.hid ca2)
  | true =>
  have e2 := applyB_free gA b2
  rw [e2] at ca2
  obtain ⟨ok2, _⟩ := balB_iff.1 b2
  have gB := (addAll_good gA ok2).1
  have lB := lensum (addAll ls l) m gA b2
  obtain ⟨okN, _, _⟩ := negL_ok ok1
  have bN := bal_neg b1
  have lN : (negL l).length = l.length := List.length_map _
  have tN : Tame (Dp (ls ++ (l ++ m))) Ms (negL l) := fun x hx => by
    obtain ⟨y, hy, rfl⟩ := List.mem_map.1 hx
    show Bd _ _ (valR (negR y.2))
    rw [negR_ok (ok_rat (ok1 y hy)), valR_rd]
    exact (tl y hy).neg
  have fN : ∀ x ∈ negL l, SzF x := fun x hx => by
    have n := lineOk_len (okN x hx)
    refine ⟨⟨Nat.le_trans n.1 (by decide), Nat.le_trans n.2 (by decide)⟩, ?_⟩
    obtain ⟨y, hy, rfl⟩ := List.mem_map.1 hx
    show Fit (negR y.2)
    rw [negR_ok (ok_rat (ok1 y hy))]
    exact fit_of (small_sized sA nA (k := 1) (by decide)) ((tl y hy).neg.mono (by rw [Nat.mul_one]; exact Nat.le_refl _))
  have wayN : Way (Dp (ls ++ (l ++ m))) (Ms * (l.length + 1)) (addAll ls l) (negL l) := ⟨big2 _ (by omega), fun _ => tA, fun _ => up tN⟩
  have e3 : applyB (addAll ls l) (negL l) false = (ls, 0) := by rw [applyB_free gA bN, add_neg g b1]
  have e4 : applyB ls (l ++ m) false = (addAll (addAll ls l) m, 0) := by rw [applyB_free g (bal_append b1 b2), addAll_append]
  have way4 : Way (Dp (ls ++ (l ++ m))) Ms ls (l ++ m) := small_way s1 (fun x hx => (List.mem_append.1 hx).elim (s2 x) (s3 x)) i1 (fun x hx => List.mem_append.2 (.inr hx)) sA nA (by rw [List.length_append]; omega)
  exact back7_main H p c ls q d l r f m w hg hL hQ hR (addAll ls l) (addAll (addAll ls l) m) (by omega) (by omega) (by omega) (by omega) (l ++ m) (Lib.hid rfl) (Lib.hid c1) (Lib.hid c2) (Lib.hid c3) (Lib.hid c4) (Lib.hid ca1) (Lib.hid ca2)
    (Lib.hid fun k x hx V => rqneg_any ⟨x.2.1.toArray⟩ ⟨x.2.2.toArray⟩ V (by rw [size_of]; exact Nat.le_trans (z2 x (List.mem_of_getElem? hx)).2.1 (by decide)) (by rw [size_of]; exact Nat.le_trans (z2 x (List.mem_of_getElem? hx)).2.2 (by decide)))
    (Lib.hid fun V hv hgv p' c' q' d' h1 h2 h3 h4 => by
      have k := H.apply p' c' (addAll ls l) q' d' (negL l) false _ _ V h1 h2 (by omega) (by omega) fA fN wayN h3 h4 hgv
      rw [e3] at k; exact k)
    (Lib.hid fun V hv hgv q' d' h1 h2 => by
      have k := H.apply p c ls q' d' (l ++ m) false _ _ V hc h1 (by omega) (by rw [List.length_append]; omega) z1 (fun x hx => (List.mem_append.1 hx).elim (z2 x) (z3 x)) way4 (hL.below hv) h2 hgv
      rw [e4] at k; exact k)
end Go.Proofs.YtamibckbebifkaaGreatDoor
