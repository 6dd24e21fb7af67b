/- The walk of InstructTells. -/
import Derived.Test.YtagfndkfjbbpjaaGreatDoorSch
import Derived.Test.YtagfndkfjbbpjaaGreatDoorInsApi
namespace Go.Proofs.YtagfndkfjbbpjaaGreatDoor
open Go.RowKit
set_option linter.unusedSimpArgs false
set_option linter.unusedVariables false
variable {G : World → Prop}
theorem sameB (p q : Option Addr) (c c' : Nat) (ls : List Ln) (w : World) (hl : ls.length ≤ 4611686018427387904) (h : Lns w p ls) (h' : Lns w q ls) : Calls Tryz.prog 13 #[.slice p ls.length c, .slice q ls.length c'] w (GiveB w true) := by
 have k := rbsame_any p q c c' ls ls w hl hl h h'
 rw [beq_self_eq_true] at k
 exact k
theorem sameI (p q : Option Addr) (c c' : Nat) (l : List In) (w : World) (hl : l.length ≤ 4611686018427387904) (h : Ins w p l) (h' : Ins w q l) : Calls Tryz.prog 18 #[.slice p l.length c, .slice q l.length c'] w (GiveB w true) := by
 have k := risame_any p q c c' l l w hl hl h h'
 rw [decide_eq_true rfl] at k
 exact k
theorem sameN (p q : Option Addr) (c c' : Nat) (l : List Int) (w : World) (hl : l.length ≤ 4611686018427387904) (h : Nums w p l) (h' : Nums w q l) : Calls Tryz.prog 19 #[.slice p l.length c, .slice q l.length c'] w (GiveB w true) := by
 have k := riints_any p q c c' l l w hl hl h h'
 rw [decide_eq_true rfl] at k
 exact k
theorem heldRow8 {P : Program} {f : FuncId} {args : Array Value} {w W : World} {B : Nat} {n : Nat} {R : Option Addr → World → Prop} (hB : B ≤ W.heap.size) (c : Calls P f args w fun e w' => (∃ p c, e = .returned (.slice p n c) ∧ n ≤ c ∧ R p w') ∧ Below w.heap.size w w') (h : Below B W w) :
  Calls P f args w fun e w' => (∃ p c, e = .returned (.slice p n c) ∧ n ≤ c ∧ R p w') ∧ Below w.heap.size w w' ∧ Below B W w' := c.mono fun _ _ ⟨he, hb⟩ => ⟨he, hb, h.trans (hb.mono (Nat.le_trans hB h.size))⟩
set_option maxRecDepth 100000 in
set_option maxHeartbeats 4000000 in
theorem itells_b (H : InsC G) (p : Option Addr) (c : Nat) (ls : List Ln) (q : Option Addr) (d : Nat) (l : List In) (day : Int) (w : World) (hg : G w)
  (CS1 : Hid (∀ V, Below w.heap.size w V → Calls Tryz.prog 8 #[.slice p ls.length c] V (GiveB V false))) :
  Calls Tryz.prog 3 #[.slice p ls.length c, .slice q l.length d, .int .i64 day] w (GiveB w true) := by
 have HB := Lib.hid H; have HT := Lib.hid hg; clear H hg
 go_enter Tryz.func3, Tryz.ntmps3
 go_wp2_with fail
 have BW := Below.refl w.heap.size w
 have b0 : Below w.heap.size w w := Below.refl _ _
 refine (CS1.out _ (Below.more BW b0)).mono ?_
 rintro e w1 ⟨rfl, b⟩
 have b1 := Below.more b0 b
 clear b
 go_wp2_with fail
 refine (fixed8_any HB.out _ (HB.out.below HT.out b1)).mono ?_
 rintro e w2 ⟨rfl, b⟩
 have b2 := Below.more b1 b
 clear b
 go_wp2_with fail
 go_ret
 exact ⟨rfl, Below.more BW b2⟩
set_option maxRecDepth 100000 in
set_option maxHeartbeats 4000000 in
theorem itells_l (H : InsC G) (p : Option Addr) (c : Nat) (ls : List Ln) (q : Option Addr) (d : Nat) (l : List In) (day : Int) (w : World) (hg : G w)
  (CS1 : Hid (∀ V, Below w.heap.size w V → Calls Tryz.prog 8 #[.slice p ls.length c] V (GiveB V true)))
  (CS2 : Hid (∀ V, Below w.heap.size w V → Calls Tryz.prog 9 #[.slice q l.length d] V (GiveB V false))) :
  Calls Tryz.prog 3 #[.slice p ls.length c, .slice q l.length d, .int .i64 day] w (GiveB w true) := by
 have HB := Lib.hid H; have HT := Lib.hid hg; clear H hg
 go_enter Tryz.func3, Tryz.ntmps3
 go_wp2_with fail
 have BW := Below.refl w.heap.size w
 have b0 : Below w.heap.size w w := Below.refl _ _
 refine (CS1.out _ (Below.more BW b0)).mono ?_
 rintro e w1 ⟨rfl, b⟩
 have b1 := Below.more b0 b
 clear b
 go_wp2_with fail
 refine (CS2.out _ (Below.more BW b1)).mono ?_
 rintro e w2 ⟨rfl, b⟩
 have b2 := Below.more b1 b
 clear b
 go_wp2_with fail
 refine (fixed8_any HB.out _ (HB.out.below HT.out b2)).mono ?_
 rintro e w3 ⟨rfl, b⟩
 have b3 := Below.more b2 b
 clear b
 go_wp2_with fail
 go_ret
 exact ⟨rfl, Below.more BW b3⟩
set_option maxRecDepth 100000 in
set_option maxHeartbeats 4000000 in
theorem itells_0 (H : InsC G) (p : Option Addr) (c : Nat) (ls : List Ln) (q : Option Addr) (d : Nat) (l : List In) (day : Int) (w : World) (hg : G w) (h0 : l = []) (R : Ran) (hR : R.book.length ≤ 4611686018427387904 ∧ R.rest.length ≤ 4611686018427387904 ∧ R.done.length ≤ 4611686018427387904) (bl : Bool) (fd : Int)
  (CS1 : Hid (∀ V, Below w.heap.size w V → Calls Tryz.prog 8 #[.slice p ls.length c] V (GiveB V true)))
  (CS2 : Hid (∀ V, Below w.heap.size w V → Calls Tryz.prog 9 #[.slice q l.length d] V (GiveB V true)))
  (CR : Hid (∀ V, Below w.heap.size w V → G V → Calls Tryz.prog 11 #[.slice p ls.length c, .slice q l.length d, .int .i64 day] V (GiveRun V R)))
  (CD : Hid (∀ V, Below w.heap.size w V → Calls Tryz.prog 12 #[.slice p ls.length c, .slice q l.length d, .int .i64 day] V (GiveRun V R)))
  (CM1 : Hid (∀ V, Below w.heap.size w V → G V → Calls Tryz.prog 16 #[.slice q l.length d] V (GiveB V bl)))
  (CM2 : Hid (∀ V, Below w.heap.size w V → Calls Tryz.prog 17 #[.slice q l.length d] V (GiveB V bl)))
  (CF1 : Hid (∀ V, Below w.heap.size w V → G V → Calls Tryz.prog 20 #[.slice q l.length d, .int .i64 day] V (GiveI V fd)))
  (CF2 : Hid (∀ V, Below w.heap.size w V → Calls Tryz.prog 21 #[.slice q l.length d, .int .i64 day] V (GiveI V fd))) :
  Calls Tryz.prog 3 #[.slice p ls.length c, .slice q l.length d, .int .i64 day] w (GiveB w true) := by
 subst h0
 simp only [List.length_nil] at CS2 CR CD CM1 CM2 CF1 CF2 ⊢
 have HB := Lib.hid H; have HT := Lib.hid hg; clear H hg
 go_enter Tryz.func3, Tryz.ntmps3
 go_wp2_with fail
 have BW := Below.refl w.heap.size w
 have b0 : Below w.heap.size w w := Below.refl _ _
 refine (CS1.out _ (Below.more BW b0)).mono ?_
 rintro e w1 ⟨rfl, b⟩
 have b1 := Below.more b0 b
 clear b
 go_wp2_with fail
 refine (CS2.out _ (Below.more BW b1)).mono ?_
 rintro e w2 ⟨rfl, b⟩
 have b2 := Below.more b1 b
 clear b
 go_wp2_with fail
 refine (CR.out _ (Below.more BW b2) (HB.out.below HT.out b2)).mono ?_
 rintro e U3 ⟨⟨pb1, cb1, pi1, ci1, pn1, cn1, rfl, ⟨hb1, hi1, hn1⟩, l1, l2, l3⟩, b⟩
 have bU := Below.more b2 b
 clear b
 replace BW := Below.more BW bU
 replace HT := Lib.hid (HB.out.below HT.out bU)
 have LB1 := Lib.hid l1; have LI1 := Lib.hid l2; have LN1 := Lib.hid l3
 clear l1 l2 l3 bU
 have b3 := Below.refl U3.heap.size U3
 go_wp2_with fail
 refine (CD.out _ (Below.more BW b3)).mono ?_
 rintro e U4 ⟨⟨pb2, cb2, pi2, ci2, pn2, cn2, rfl, ⟨hb2, hi2, hn2⟩, l1, l2, l3⟩, b⟩
 have bU := Below.more b3 b
 clear b
 replace LB1 := Lib.hid (LB1.out.below bU)
 replace LI1 := Lib.hid (LI1.out.below bU)
 replace LN1 := Lib.hid (LN1.out.below bU)
 replace BW := Below.more BW bU
 replace HT := Lib.hid (HB.out.below HT.out bU)
 have LB2 := Lib.hid l1; have LI2 := Lib.hid l2; have LN2 := Lib.hid l3
 clear l1 l2 l3 bU
 have b4 := Below.refl U4.heap.size U4
 have hB := Lib.hid (Nat.le_refl U4.heap.size)
 clear CS1 CS2 CR CD
 go_wp2_with fail
 refine wp_region_noPanic ?_
 refine wp_region_held_drew (S := fun w' => Below U4.heap.size U4 w') (by kernel_rfl) (b4.drew) (fun hH0 => ?_)
 refine sch_in [0, 1, 2, 3, 4, 5, 6, 7, 8, 9, 10, 11, 12, 13, 14] ?_
 iterate 15 (first | (refine sch_no rfl (by kernel_rfl) (by rfl) (by assumption) ?_; try simp only [Act.put, qA, qB, qC, qD, qE, qF]) | (refine sch_yes (v := ?_) rfl (by kernel_rfl) (by rfl) ?_ (by assumption) ?_; rotate_left 1; (· (intro w hSw; (try dsimp only at hSw); go_simp <;> (with_reducible rfl))); try simp only [Act.put, qA, qB, qC, qD, qE, qF]))
 refine sch_out ?_
 refine wpAnyH_done (by kernel_rfl) ?_ _
 refine NoPanic.normal ?_
 have b30 := hH0
 clear hH0
 go_wp2_with fail
 refine (fixed8_any HB.out _ (HB.out.below HT.out b30)).mono ?_
 rintro e w31 ⟨rfl, b⟩
 have b31 := Below.more b30 b
 clear b
 go_wp2_with fail
 refine (CM1.out _ (Below.more BW b31) (HB.out.below HT.out b31)).mono ?_
 rintro e w32 ⟨rfl, b⟩
 have b32 := Below.more b31 b
 clear b
 go_wp2_with fail
 refine (CM2.out _ (Below.more BW b32)).mono ?_
 rintro e w33 ⟨rfl, b⟩
 have b33 := Below.more b32 b
 clear b
 go_wp2_with fail
 refine (sameB _ _ _ _ R.book _ hR.1 (LB1.out.below b33) (LB2.out.below b33)).mono ?_
 rintro e w34 ⟨rfl, b⟩
 have b34 := Below.more b33 b
 clear b
 go_wp2_with fail
 refine (sameI _ _ _ _ R.rest _ hR.2.1 (LI1.out.below b34) (LI2.out.below b34)).mono ?_
 rintro e w35 ⟨rfl, b⟩
 have b35 := Below.more b34 b
 clear b
 go_wp2_with fail
 refine (sameN _ _ _ _ R.done _ hR.2.2 (LN1.out.below b35) (LN2.out.below b35)).mono ?_
 rintro e w36 ⟨rfl, b⟩
 have b36 := Below.more b35 b
 clear b
 go_wp2_with fail
 refine (CF1.out _ (Below.more BW b36) (HB.out.below HT.out b36)).mono ?_
 rintro e w37 ⟨rfl, b⟩
 have b37 := Below.more b36 b
 clear b
 go_wp2_with fail
 refine (CF2.out _ (Below.more BW b37)).mono ?_
 rintro e w38 ⟨rfl, b⟩
 have b38 := Below.more b37 b
 clear b
 go_wp2_with fail
 go_ret
 exact ⟨rfl, Below.more BW b38⟩
set_option maxRecDepth 100000 in
set_option maxHeartbeats 4000000 in
theorem itells_1 (H : InsC G) (p : Option Addr) (c : Nat) (ls : List Ln) (b o d n : Nat) (day : Int) {i g u : Int} {f t a qn qd pn pd : List UInt8} (w : World) (hg : G w) (hn : 0 < n) (R : Ran) (hR : R.book.length ≤ 4611686018427387904 ∧ R.rest.length ≤ 4611686018427387904 ∧ R.done.length ≤ 4611686018427387904) (bl : Bool) (fd : Int) (LL : List Ln) (hLL : LL.length ≤ 4611686018427387904)
  (k0 : ∀ v, Below w.heap.size w v → v.cell? ⟨b, o, none⟩ = some (.int .i64 i))
  (k1 : ∀ v, Below w.heap.size w v → v.cell? ⟨b, o + 1, none⟩ = some (.int .i64 g))
  (k2 : ∀ v, Below w.heap.size w v → v.cell? ⟨b, o + 2, none⟩ = some (.int .i64 u))
  (k3 : ∀ v, Below w.heap.size w v → v.cell? ⟨b, o + 3, none⟩ = some (.string ⟨f.toArray⟩))
  (k4 : ∀ v, Below w.heap.size w v → v.cell? ⟨b, o + 4, none⟩ = some (.string ⟨t.toArray⟩))
  (k5 : ∀ v, Below w.heap.size w v → v.cell? ⟨b, o + 5, none⟩ = some (.string ⟨a.toArray⟩))
  (k6 : ∀ v, Below w.heap.size w v → v.cell? ⟨b, o + 6, none⟩ = some (.string ⟨qn.toArray⟩))
  (k7 : ∀ v, Below w.heap.size w v → v.cell? ⟨b, o + 7, none⟩ = some (.string ⟨qd.toArray⟩))
  (k8 : ∀ v, Below w.heap.size w v → v.cell? ⟨b, o + 8, none⟩ = some (.string ⟨pn.toArray⟩))
  (k9 : ∀ v, Below w.heap.size w v → v.cell? ⟨b, o + 9, none⟩ = some (.string ⟨pd.toArray⟩))
  (CS1 : Hid (∀ V, Below w.heap.size w V → Calls Tryz.prog 8 #[.slice p ls.length c] V (GiveB V true)))
  (CS2 : Hid (∀ V, Below w.heap.size w V → Calls Tryz.prog 9 #[.slice (some ⟨b, o, none⟩) n d] V (GiveB V true)))
  (CR : Hid (∀ V, Below w.heap.size w V → G V → Calls Tryz.prog 11 #[.slice p ls.length c, .slice (some ⟨b, o, none⟩) n d, .int .i64 day] V (GiveRun V R)))
  (CD : Hid (∀ V, Below w.heap.size w V → Calls Tryz.prog 12 #[.slice p ls.length c, .slice (some ⟨b, o, none⟩) n d, .int .i64 day] V (GiveRun V R)))
  (CM1 : Hid (∀ V, Below w.heap.size w V → G V → Calls Tryz.prog 16 #[.slice (some ⟨b, o, none⟩) n d] V (GiveB V bl)))
  (CM2 : Hid (∀ V, Below w.heap.size w V → Calls Tryz.prog 17 #[.slice (some ⟨b, o, none⟩) n d] V (GiveB V bl)))
  (CF1 : Hid (∀ V, Below w.heap.size w V → G V → Calls Tryz.prog 20 #[.slice (some ⟨b, o, none⟩) n d, .int .i64 day] V (GiveI V fd)))
  (CF2 : Hid (∀ V, Below w.heap.size w V → Calls Tryz.prog 21 #[.slice (some ⟨b, o, none⟩) n d, .int .i64 day] V (GiveI V fd)))
  (CL1 : Hid (∀ V, Below w.heap.size w V → G V → Calls Tryz.prog 14 #[.agg #[.int .i64 i, .int .i64 g, .int .i64 u, .string ⟨f.toArray⟩, .string ⟨t.toArray⟩, .string ⟨a.toArray⟩, .string ⟨qn.toArray⟩, .string ⟨qd.toArray⟩, .string ⟨pn.toArray⟩, .string ⟨pd.toArray⟩]] V (GiveLI V LL)))
  (CL2 : Hid (∀ V, Calls Tryz.prog 15 #[.agg #[.int .i64 i, .int .i64 g, .int .i64 u, .string ⟨f.toArray⟩, .string ⟨t.toArray⟩, .string ⟨a.toArray⟩, .string ⟨qn.toArray⟩, .string ⟨qd.toArray⟩, .string ⟨pn.toArray⟩, .string ⟨pd.toArray⟩]] V (GiveLI V LL))) :
  Calls Tryz.prog 3 #[.slice p ls.length c, .slice (some ⟨b, o, none⟩) n d, .int .i64 day] w (GiveB w true) := by
 have hn0 : (0 : Int) < (n : Int) := by omega
 have HB := Lib.hid H; have HT := Lib.hid hg; clear H hg
 go_enter Tryz.func3, Tryz.ntmps3
 go_wp2_with fail
 have BW := Below.refl w.heap.size w
 have b0 : Below w.heap.size w w := Below.refl _ _
 refine (CS1.out _ (Below.more BW b0)).mono ?_
 rintro e w1 ⟨rfl, b⟩
 have b1 := Below.more b0 b
 clear b
 go_wp2_with fail
 refine (CS2.out _ (Below.more BW b1)).mono ?_
 rintro e w2 ⟨rfl, b⟩
 have b2 := Below.more b1 b
 clear b
 go_wp2_with fail
 refine (CR.out _ (Below.more BW b2) (HB.out.below HT.out b2)).mono ?_
 rintro e U3 ⟨⟨pb1, cb1, pi1, ci1, pn1, cn1, rfl, ⟨hb1, hi1, hn1⟩, l1, l2, l3⟩, b⟩
 have bU := Below.more b2 b
 clear b
 replace BW := Below.more BW bU
 replace HT := Lib.hid (HB.out.below HT.out bU)
 have LB1 := Lib.hid l1; have LI1 := Lib.hid l2; have LN1 := Lib.hid l3
 clear l1 l2 l3 bU
 have b3 := Below.refl U3.heap.size U3
 go_wp2_with fail
 refine (CD.out _ (Below.more BW b3)).mono ?_
 rintro e U4 ⟨⟨pb2, cb2, pi2, ci2, pn2, cn2, rfl, ⟨hb2, hi2, hn2⟩, l1, l2, l3⟩, b⟩
 have bU := Below.more b3 b
 clear b
 replace LB1 := Lib.hid (LB1.out.below bU)
 replace LI1 := Lib.hid (LI1.out.below bU)
 replace LN1 := Lib.hid (LN1.out.below bU)
 replace BW := Below.more BW bU
 replace HT := Lib.hid (HB.out.below HT.out bU)
 have LB2 := Lib.hid l1; have LI2 := Lib.hid l2; have LN2 := Lib.hid l3
 clear l1 l2 l3 bU
 have b4 := Below.refl U4.heap.size U4
 have hB := Lib.hid (Nat.le_refl U4.heap.size)
 clear CS1 CS2 CR CD
 go_wp2_with fail
 replace k0 := fun v (h : Below U4.heap.size U4 v) => k0 v (Below.more BW h)
 replace k1 := fun v (h : Below U4.heap.size U4 v) => k1 v (Below.more BW h)
 replace k2 := fun v (h : Below U4.heap.size U4 v) => k2 v (Below.more BW h)
 replace k3 := fun v (h : Below U4.heap.size U4 v) => k3 v (Below.more BW h)
 replace k4 := fun v (h : Below U4.heap.size U4 v) => k4 v (Below.more BW h)
 replace k5 := fun v (h : Below U4.heap.size U4 v) => k5 v (Below.more BW h)
 replace k6 := fun v (h : Below U4.heap.size U4 v) => k6 v (Below.more BW h)
 replace k7 := fun v (h : Below U4.heap.size U4 v) => k7 v (Below.more BW h)
 replace k8 := fun v (h : Below U4.heap.size U4 v) => k8 v (Below.more BW h)
 replace k9 := fun v (h : Below U4.heap.size U4 v) => k9 v (Below.more BW h)
 refine wp_region_noPanic ?_
 refine wp_region_held_drew (S := fun w' => Below U4.heap.size U4 w') (by kernel_rfl) (b4.drew) (fun hH0 => ?_)
 refine sch_in [0, 1, 2, 3, 4, 5, 6, 8, 9, 10] ?_
 iterate 10 (refine sch_yes (v := ?_) rfl (by kernel_rfl) (by rfl) ?_ (by assumption) ?_; rotate_left 1; (· (intro w hSw; (try dsimp only at hSw); go_simp <;> (with_reducible rfl))); try simp only [Act.put, qA, qB, qC, qD, qE, qF])
 refine sch_out ?_
 refine wpAnyH_ready (rs := [7]) (by kernel_rfl) (by simp) ?_
 refine AllReadyH.cons rfl (fun K hK => ?_) AllReadyH.nil
 go_simp
 refine (heldRow8 (W := U4) hB.out (CL1.out _ (Below.more BW (by with_reducible assumption)) (HB.out.below HT.out (by with_reducible assumption))) (by assumption)).mono ?_
 rintro e w'' ⟨⟨prx, cx, rfl, hcx, hlx⟩, hb, hw⟩
 have Lx := Lib.hid hlx
 clear hlx
 (try go_wp2_with fail)
 refine hK.out _ _ hw (fun hH1 => ?_)
 clear hK hH0 hb
 try simp only [Act.put, qA, qB, qC, qD, qE, qF]
 refine wpAnyH_ready (rs := [11]) (by kernel_rfl) (by simp) ?_
 refine AllReadyH.cons rfl (fun K hK => ?_) AllReadyH.nil
 go_simp
 refine (heldRow8 (W := U4) hB.out (CL2.out _) (by assumption)).mono ?_
 rintro e w'' ⟨⟨pry, cy, rfl, hcy, hly⟩, hb, hw⟩
 replace Lx := Lib.hid (Lx.out.below hb)
 have Ly := Lib.hid hly
 clear hly
 (try go_wp2_with fail)
 refine hK.out _ _ hw (fun hH2 => ?_)
 clear hK hH1 hb
 try simp only [Act.put, qA, qB, qC, qD, qE, qF]
 refine wpAnyH_ready (rs := [12]) (by kernel_rfl) (by simp) ?_
 refine AllReadyH.cons rfl (fun K hK => ?_) AllReadyH.nil
 go_simp
 refine (held (W := U4) hB.out (sameB _ _ _ _ LL _ hLL Lx.out Ly.out) (by assumption)).mono ?_
 rintro e w'' ⟨rfl, hb, hw⟩
 replace Lx := Lib.hid (Lx.out.below hb)
 replace Ly := Lib.hid (Ly.out.below hb)
 (try go_wp2_with fail)
 refine hK.out _ _ hw (fun hH3 => ?_)
 clear hK hH2 hb
 try simp only [Act.put, qA, qB, qC, qD, qE, qF]
 refine sch_in [13, 14] ?_
 iterate 2 (refine sch_yes (v := ?_) rfl (by kernel_rfl) (by rfl) ?_ (by assumption) ?_; rotate_left 1; (· (intro w hSw; (try dsimp only at hSw); go_simp <;> (with_reducible rfl))); try simp only [Act.put, qA, qB, qC, qD, qE, qF])
 refine sch_out ?_
 refine wpAnyH_done (by kernel_rfl) ?_ _
 refine NoPanic.normal ?_
 have b30 := hw
 clear hw
 clear Lx Ly k0 k1 k2 k3 k4 k5 k6 k7 k8 k9
 go_wp2_with fail
 refine (fixed8_any HB.out _ (HB.out.below HT.out b30)).mono ?_
 rintro e w31 ⟨rfl, b⟩
 have b31 := Below.more b30 b
 clear b
 go_wp2_with fail
 refine (CM1.out _ (Below.more BW b31) (HB.out.below HT.out b31)).mono ?_
 rintro e w32 ⟨rfl, b⟩
 have b32 := Below.more b31 b
 clear b
 go_wp2_with fail
 refine (CM2.out _ (Below.more BW b32)).mono ?_
 rintro e w33 ⟨rfl, b⟩
 have b33 := Below.more b32 b
 clear b
 go_wp2_with fail
 refine (sameB _ _ _ _ R.book _ hR.1 (LB1.out.below b33) (LB2.out.below b33)).mono ?_
 rintro e w34 ⟨rfl, b⟩
 have b34 := Below.more b33 b
 clear b
 go_wp2_with fail
 refine (sameI _ _ _ _ R.rest _ hR.2.1 (LI1.out.below b34) (LI2.out.below b34)).mono ?_
 rintro e w35 ⟨rfl, b⟩
 have b35 := Below.more b34 b
 clear b
 go_wp2_with fail
 refine (sameN _ _ _ _ R.done _ hR.2.2 (LN1.out.below b35) (LN2.out.below b35)).mono ?_
 rintro e w36 ⟨rfl, b⟩
 have b36 := Below.more b35 b
 clear b
 go_wp2_with fail
 refine (CF1.out _ (Below.more BW b36) (HB.out.below HT.out b36)).mono ?_
 rintro e w37 ⟨rfl, b⟩
 have b37 := Below.more b36 b
 clear b
 go_wp2_with fail
 refine (CF2.out _ (Below.more BW b37)).mono ?_
 rintro e w38 ⟨rfl, b⟩
 have b38 := Below.more b37 b
 clear b
 go_wp2_with fail
 go_ret
 exact ⟨rfl, Below.more BW b38⟩
theorem run_lens (ls : List Ln) (l : List In) (day : Int) (h1 : ls.length ≤ 1000) (h2 : l.length ≤ 1000) : (runI ls l day).book.length ≤ 4611686018427387904 ∧ (runI ls l day).rest.length ≤ 4611686018427387904 ∧ (runI ls l day).done.length ≤ 4611686018427387904 := by
 unfold runI
 split
 ·rename_i h
  have hg := good_iff.1 ((Bool.and_eq_true _ _).mp h).1
  have a := run_len (l := l) (day := day) hg l.length (Nat.le_refl _)
  have b := rest_len (ls := ls) (l := l) (day := day) l.length
  exact ⟨Nat.le_trans a (by omega), Nat.le_trans b.1 (by omega), Nat.le_trans b.2 (by omega)⟩
 ·exact ⟨Nat.zero_le _, Nat.zero_le _, Nat.zero_le _⟩
theorem shI_sz {x : In} (h : shI x = true) : SzI x := szI_c (l := [x]) (by rw [List.all_cons, h]; rfl) x (List.mem_cons_self ..)
structure RunW (ls : List Ln) (l : List In) : Prop where
 n1 : ls.length ≤ 40
 n2 : l.length ≤ 40
 zf : ∀ x ∈ ls, SzF x
 zi : ∀ x ∈ l, SzI x
 z : Sized (Di ls l) (Ms * 2000)
 t : Good ls → ∀ key, Bd (Di ls l) Ms (hasQ ls key)
 b : ∀ x ∈ l, oneB x = true → Bd (Di ls l) Ms (valR x.q) ∧ Bd (Di ls l) Ms (valR x.pay)
theorem runW {ls : List Ln} {l : List In} (h1 : smB ls = true) (h2 : smI l = true) : RunW ls l := by
 obtain ⟨s1, n1⟩ := smB_iff.1 h1
 obtain ⟨s2, n2⟩ := smI_iff.1 h2
 obtain ⟨a, b, c⟩ := small_run s1 n1 s2 n2
 exact ⟨n1, n2, fun x hx => shL_fit (s1 x hx), fun x hx => shI_sz (s2 x hx), a 2000 (by decide), b, c⟩
theorem itells_any (H : InsC G) (p : Option Addr) (c : Nat) (ls : List Ln) (q : Option Addr) (d : Nat) (l : List In) (day : Int) (w : World) (hc : ls.length ≤ c) (hd : l.length ≤ d) (hl : ls.length ≤ 4611686018427387904) (hl2 : l.length ≤ 4611686018427387904) (hL : Lns w p ls) (hI : Ins w q l) (hg : G w) :
  Calls Tryz.prog 3 #[.slice p ls.length c, .slice q l.length d, .int .i64 day] w (GiveB w true) := by
 have c1 := fun V (hv : Below w.heap.size w V) => rbsmall_any p c ls V hc hl (hL.below hv)
 have c2 := fun V (hv : Below w.heap.size w V) => rismall_any q d l V hd hl2 (hI.below hv)
 cases h1 : smB ls with
 | false => rw [h1] at c1; exact itells_b H p c ls q d l day w hg (Lib.hid c1)
 | true =>
 rw [h1] at c1
 cases h2 : smI l with
 | false => rw [h2] at c2; exact itells_l H p c ls q d l day w hg (Lib.hid c1) (Lib.hid c2)
 | true =>
 rw [h2] at c2
 have W := runW h1 h2
 have cr := fun V (hv : Below w.heap.size w V) (hgv : G V) => H.run p c ls q d l day _ _ V hc hd (Nat.le_trans W.n1 (by decide)) W.n2 W.zf W.zi W.z W.t W.b (hL.below hv) (hI.below hv) hgv
 have cd := fun V (hv : Below w.heap.size w V) => rirun_any p c ls q d l day V hc hd (Nat.le_trans W.n1 (by decide)) W.n2 W.zf W.zi W.z W.t W.b (hL.below hv) (hI.below hv)
 have m1 := fun V (hv : Below w.heap.size w V) (hgv : G V) => H.may q d l V hd (Nat.le_trans W.n2 (by decide)) W.zi (hI.below hv) hgv
 have m2 := fun V (hv : Below w.heap.size w V) => rimay_any q d l V hl2 W.zi (hI.below hv)
 have f1 := fun V (hv : Below w.heap.size w V) (hgv : G V) => H.find q d l day V hd (Nat.le_trans W.n2 (by decide)) (hI.below hv) hgv
 have f2 := fun V (hv : Below w.heap.size w V) => rifind_any q d l day V hl2 (hI.below hv)
 have hR := run_lens ls l day (Nat.le_trans W.n1 (by decide)) (Nat.le_trans W.n2 (by decide))
 cases l with
 | nil => exact itells_0 H p c ls q d [] day w hg rfl _ hR _ _ (Lib.hid c1) (Lib.hid c2) (Lib.hid cr) (Lib.hid cd) (Lib.hid m1) (Lib.hid m2) (Lib.hid f1) (Lib.hid f2)
 | cons x r =>
  obtain ⟨i, g, u, f, t, a, ⟨qn, qd⟩, ⟨pn, pd⟩⟩ := x
  obtain ⟨b, o, rfl, k0, k1, k2, k3, k4, k5, k6, k7, k8, k9⟩ := hI.rule (k := 0) rfl
  simp only [Nat.zero_mul, Nat.add_zero] at k0 k1 k2 k3 k4 k5 k6 k7 k8 k9
  have hz := W.zi _ (List.mem_cons_self ..)
  refine itells_1 H p c ls b o d _ day w hg (Nat.succ_pos _) _ hR _ _ _ (Nat.le_trans (lines_len (In.mk i g u f t a (qn, qd) (pn, pd))) (by decide)) k0 k1 k2 k3 k4 k5 k6 k7 k8 k9 (Lib.hid c1) (Lib.hid c2) (Lib.hid cr) (Lib.hid cd) (Lib.hid m1) (Lib.hid m2) (Lib.hid f1) (Lib.hid f2) (Lib.hid fun V _ hgv => H.lines (In.mk i g u f t a (qn, qd) (pn, pd)) V hz hgv) (Lib.hid fun V => rilines_any V hz)
end Go.Proofs.YtagfndkfjbbpjaaGreatDoor
