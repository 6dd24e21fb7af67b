/- The walk of InstructWhole. -/
import Derived.Test.YtagfndkfjbbpjaaGreatDoorSch
import Derived.Test.YtagfndkfjbbpjaaGreatDoorWTells8
namespace Go.Proofs.YtagfndkfjbbpjaaGreatDoor
open Go.RowKit
set_option linter.unusedSimpArgs false
set_option linter.unusedVariables false
variable {G : World → Prop}
set_option maxRecDepth 100000 in
set_option maxHeartbeats 4000000 in
theorem iwhole_0 (H : InsC G) (p : Option Addr) (c : Nat) (ls : List Ln) (q : Option Addr) (d : Nat) (l : List In) (day : Int) (w : World) (hg : G w)
  (CS1 : Hid (∀ V, Below w.heap.size w V → Calls Tryz.prog 8 #[.slice p ls.length c] V (GiveB V false))) :
  Calls Tryz.prog 4 #[.slice p ls.length c, .slice q l.length d, .int .i64 day] w (GiveB w true) := by
 have HB := Lib.hid H; have HT := Lib.hid hg; clear H hg
 go_enter Tryz.func4, Tryz.ntmps4
 go_wp2_with fail
 have BW := Below.refl w.heap.size w
 have b0 : Below w.heap.size w w := Below.refl _ _
 refine (fixed8_any HB.out _ (HB.out.below HT.out b0)).mono ?_
 rintro e w1 ⟨rfl, b⟩
 have b1 := Below.more b0 b
 clear b
 go_wp2_with fail
 refine (CS1.out _ (Below.more BW b1)).mono ?_
 rintro e w2 ⟨rfl, b⟩
 have b2 := Below.more b1 b
 clear b
 go_wp2_with fail
 refine (fixed8_any HB.out _ (HB.out.below HT.out b2)).mono ?_
 rintro e w3 ⟨rfl, b⟩
 have b3 := Below.more b2 b
 clear b
 go_wp2_with fail
 go_ret
 exact ⟨rfl, Below.more BW b3⟩
set_option maxRecDepth 100000 in
set_option maxHeartbeats 4000000 in
theorem iwhole_1 (H : InsC G) (p : Option Addr) (c : Nat) (ls : List Ln) (q : Option Addr) (d : Nat) (l : List In) (day : Int) (w : World) (hg : G w)
  (CS1 : Hid (∀ V, Below w.heap.size w V → Calls Tryz.prog 8 #[.slice p ls.length c] V (GiveB V true)))
  (CS2 : Hid (∀ V, Below w.heap.size w V → Calls Tryz.prog 9 #[.slice q l.length d] V (GiveB V false))) :
  Calls Tryz.prog 4 #[.slice p ls.length c, .slice q l.length d, .int .i64 day] w (GiveB w true) := by
 have HB := Lib.hid H; have HT := Lib.hid hg; clear H hg
 go_enter Tryz.func4, Tryz.ntmps4
 go_wp2_with fail
 have BW := Below.refl w.heap.size w
 have b0 : Below w.heap.size w w := Below.refl _ _
 refine (fixed8_any HB.out _ (HB.out.below HT.out b0)).mono ?_
 rintro e w1 ⟨rfl, b⟩
 have b1 := Below.more b0 b
 clear b
 go_wp2_with fail
 refine (CS1.out _ (Below.more BW b1)).mono ?_
 rintro e w2 ⟨rfl, b⟩
 have b2 := Below.more b1 b
 clear b
 go_wp2_with fail
 refine (CS2.out _ (Below.more BW b2)).mono ?_
 rintro e w3 ⟨rfl, b⟩
 have b3 := Below.more b2 b
 clear b
 go_wp2_with fail
 refine (fixed8_any HB.out _ (HB.out.below HT.out b3)).mono ?_
 rintro e w4 ⟨rfl, b⟩
 have b4 := Below.more b3 b
 clear b
 go_wp2_with fail
 go_ret
 exact ⟨rfl, Below.more BW b4⟩
set_option maxRecDepth 100000 in
set_option maxHeartbeats 4000000 in
theorem iwhole_2 (H : InsC G) (p : Option Addr) (c : Nat) (ls : List Ln) (q : Option Addr) (d : Nat) (l : List In) (day : Int) (w : World) (hg : G w)
  (CS1 : Hid (∀ V, Below w.heap.size w V → Calls Tryz.prog 8 #[.slice p ls.length c] V (GiveB V true)))
  (CS2 : Hid (∀ V, Below w.heap.size w V → Calls Tryz.prog 9 #[.slice q l.length d] V (GiveB V true)))
  (CS3 : Hid (∀ V, Below w.heap.size w V → Calls Tryz.prog 22 #[.slice p ls.length c] V (GiveB V false))) :
  Calls Tryz.prog 4 #[.slice p ls.length c, .slice q l.length d, .int .i64 day] w (GiveB w true) := by
 have HB := Lib.hid H; have HT := Lib.hid hg; clear H hg
 go_enter Tryz.func4, Tryz.ntmps4
 go_wp2_with fail
 have BW := Below.refl w.heap.size w
 have b0 : Below w.heap.size w w := Below.refl _ _
 refine (fixed8_any HB.out _ (HB.out.below HT.out b0)).mono ?_
 rintro e w1 ⟨rfl, b⟩
 have b1 := Below.more b0 b
 clear b
 go_wp2_with fail
 refine (CS1.out _ (Below.more BW b1)).mono ?_
 rintro e w2 ⟨rfl, b⟩
 have b2 := Below.more b1 b
 clear b
 go_wp2_with fail
 refine (CS2.out _ (Below.more BW b2)).mono ?_
 rintro e w3 ⟨rfl, b⟩
 have b3 := Below.more b2 b
 clear b
 go_wp2_with fail
 refine (CS3.out _ (Below.more BW b3)).mono ?_
 rintro e w4 ⟨rfl, b⟩
 have b4 := Below.more b3 b
 clear b
 go_wp2_with fail
 refine (fixed8_any HB.out _ (HB.out.below HT.out b4)).mono ?_
 rintro e w5 ⟨rfl, b⟩
 have b5 := Below.more b4 b
 clear b
 go_wp2_with fail
 go_ret
 exact ⟨rfl, Below.more BW b5⟩
set_option maxRecDepth 100000 in
set_option maxHeartbeats 4000000 in
theorem iwhole_3 (H : InsC G) (p : Option Addr) (c : Nat) (ls : List Ln) (q : Option Addr) (d : Nat) (l : List In) (day : Int) (w : World) (hg : G w)
  (CS1 : Hid (∀ V, Below w.heap.size w V → Calls Tryz.prog 8 #[.slice p ls.length c] V (GiveB V true)))
  (CS2 : Hid (∀ V, Below w.heap.size w V → Calls Tryz.prog 9 #[.slice q l.length d] V (GiveB V true)))
  (CS3 : Hid (∀ V, Below w.heap.size w V → Calls Tryz.prog 22 #[.slice p ls.length c] V (GiveB V true)))
  (CS4 : Hid (∀ V, Below w.heap.size w V → Calls Tryz.prog 17 #[.slice q l.length d] V (GiveB V false))) :
  Calls Tryz.prog 4 #[.slice p ls.length c, .slice q l.length d, .int .i64 day] w (GiveB w true) := by
 have HB := Lib.hid H; have HT := Lib.hid hg; clear H hg
 go_enter Tryz.func4, Tryz.ntmps4
 go_wp2_with fail
 have BW := Below.refl w.heap.size w
 have b0 : Below w.heap.size w w := Below.refl _ _
 refine (fixed8_any HB.out _ (HB.out.below HT.out b0)).mono ?_
 rintro e w1 ⟨rfl, b⟩
 have b1 := Below.more b0 b
 clear b
 go_wp2_with fail
 refine (CS1.out _ (Below.more BW b1)).mono ?_
 rintro e w2 ⟨rfl, b⟩
 have b2 := Below.more b1 b
 clear b
 go_wp2_with fail
 refine (CS2.out _ (Below.more BW b2)).mono ?_
 rintro e w3 ⟨rfl, b⟩
 have b3 := Below.more b2 b
 clear b
 go_wp2_with fail
 refine (CS3.out _ (Below.more BW b3)).mono ?_
 rintro e w4 ⟨rfl, b⟩
 have b4 := Below.more b3 b
 clear b
 go_wp2_with fail
 refine (CS4.out _ (Below.more BW b4)).mono ?_
 rintro e w5 ⟨rfl, b⟩
 have b5 := Below.more b4 b
 clear b
 go_wp2_with fail
 refine (fixed8_any HB.out _ (HB.out.below HT.out b5)).mono ?_
 rintro e w6 ⟨rfl, b⟩
 have b6 := Below.more b5 b
 clear b
 go_wp2_with fail
 go_ret
 exact ⟨rfl, Below.more BW b6⟩
set_option maxRecDepth 100000 in
set_option maxHeartbeats 40000000 in
theorem iwhole_main (H : InsC G) (p : Option Addr) (c : Nat) (ls : List Ln) (q : Option Addr) (d : Nat) (l : List In) (day : Int) (w : World) (hg : G w) (hL : Lns w p ls) (hI : Ins w q l) (hc : ls.length ≤ c) (B : Nat → List Ln) (CC : List Ln) (F : List In) (N : List Int) (fd : Int → Int) (SN : Nat → Nat → Bool) (AA : Nat → Nat → List Ln) (sg ss : Nat → Int) (gg : Nat → Key) (tt : Key)
  (hB0 : B 0 = ls) (hcl : CC.length ≤ 4611686018427387904) (hl40 : l.length ≤ 1000) (hN40 : N.length ≤ 1000) (HCB : Hid (B l.length = CC)) (hsum : (F.length : Int) + (N.length : Int) = (l.length : Int)) (hwr : wrap64 (l.length : Int) = (l.length : Int))
  (CS1 : Hid (∀ V, Below w.heap.size w V → Calls Tryz.prog 8 #[.slice p ls.length c] V (GiveB V true)))
  (CS2 : Hid (∀ V, Below w.heap.size w V → Calls Tryz.prog 9 #[.slice q l.length d] V (GiveB V true)))
  (CS3 : Hid (∀ V, Below w.heap.size w V → Calls Tryz.prog 22 #[.slice p ls.length c] V (GiveB V true)))
  (CS4 : Hid (∀ V, Below w.heap.size w V → Calls Tryz.prog 17 #[.slice q l.length d] V (GiveB V true)))
  (CR : Hid (∀ V, Below w.heap.size w V → G V → Calls Tryz.prog 11 #[.slice p ls.length c, .slice q l.length d, .int .i64 day] V (GiveRun V ⟨CC, F, N, 0⟩)))
  (CMC : Hid (∀ V p' c', CC.length ≤ c' → Lns V p' CC → Calls Tryz.prog 22 #[.slice p' CC.length c'] V (GiveB V true)))
  (CF : Hid (∀ (n : Int) V p' c', F.length ≤ c' → Ins V p' F → Calls Tryz.prog 21 #[.slice p' F.length c', .int .i64 n] V (GiveI V (fd n))))
  (HSN : Hid (∀ (k : Nat) (x : In), l[k]? = some x → SN k 0 = false ∧ ∀ (j : Nat) (n : Int), N[j]? = some n → SN k (j + 1) = (SN k j || decide (n = x.id))))
  (HSD : Hid (∀ (k : Nat) (x : In), l[k]? = some x → (SN k N.length = true → fd x.id < 0 ∧ x.due ≤ day) ∧ (SN k N.length = false → 0 ≤ fd x.id)))
  (HAE : Hid (∀ (k : Nat) (x : In), l[k]? = some x → (SN k N.length = true → AA k 0 = B k ∧ AA k (linesI x).length = B (k + 1)) ∧ (SN k N.length = false → B (k + 1) = B k)))
  (CL : Hid (∀ (k : Nat) (x : In), l[k]? = some x → ∀ V, Calls Tryz.prog 15 #[.agg #[.int .i64 x.id, .int .i64 x.dealt, .int .i64 x.due, .string ⟨x.frm.toArray⟩, .string ⟨x.dst.toArray⟩, .string ⟨x.ast.toArray⟩, .string ⟨x.q.1.toArray⟩, .string ⟨x.q.2.toArray⟩, .string ⟨x.pay.1.toArray⟩, .string ⟨x.pay.2.toArray⟩]] V (GiveLI V (linesI x))))
  (CAD : Hid (∀ (k : Nat) (x : In), l[k]? = some x → SN k N.length = true → ∀ (j : Nat) (y : Ln), (linesI x)[j]? = some y → ∀ V p' c', (AA k j).length ≤ c' → Lns V p' (AA k j) → Calls Tryz.prog 23 #[.slice p' (AA k j).length c', .agg #[.string ⟨y.1.1.toArray⟩, .string ⟨y.1.2.toArray⟩, .string ⟨y.2.1.toArray⟩, .string ⟨y.2.2.toArray⟩]] V (fun e w' => (∃ p c b, e = .returned (.tuple #[.slice p (AA k (j + 1)).length c, .bool b]) ∧ (AA k (j + 1)).length ≤ c ∧ Lns w' p (AA k (j + 1))) ∧ Below V.heap.size V w')))
  (CZ : Hid (∀ (j : Nat) (y : Ln), CC[j]? = some y → ∀ V, Calls Tryz.prog 24 #[.agg #[.string ⟨y.2.1.toArray⟩, .string ⟨y.2.2.toArray⟩]] V (GiveI V (sg j))))
  (CG : Hid (∀ (j : Nat) (y : Ln), CC[j]? = some y → ∀ V, Below w.heap.size w V → Calls Tryz.prog 25 #[.slice p ls.length c, .string ⟨y.1.1.toArray⟩, .string ⟨y.1.2.toArray⟩] V (GiveR V (gg j))))
  (CY : Hid (∀ (j : Nat) (y : Ln), CC[j]? = some y → ∀ V, Calls Tryz.prog 24 #[.agg #[.string ⟨(gg j).1.toArray⟩, .string ⟨(gg j).2.toArray⟩]] V (GiveI V (ss j))))
  (FRE : Hid (∀ (j : Nat) (y : Ln), CC[j]? = some y → 0 < (⟨y.1.1.toArray⟩ : ByteArray).size ∧ ∀ h : 0 < (⟨y.1.1.toArray⟩ : ByteArray).size, ¬ (((⟨y.1.1.toArray⟩ : ByteArray)[0]).toNat : Int) = 33 → sg j < 0 → ¬ 0 ≤ ss j))
  (CT : Hid (∀ V p' c', CC.length ≤ c' → Lns V p' CC → Calls Tryz.prog 26 #[.slice p' CC.length c', .string ⟨#[99, 97, 115, 104]⟩] V (GiveR V tt)))
  (CU : Hid (∀ V, Below w.heap.size w V → Calls Tryz.prog 26 #[.slice p ls.length c, .string ⟨#[99, 97, 115, 104]⟩] V (GiveR V tt))) :
  Calls Tryz.prog 4 #[.slice p ls.length c, .slice q l.length d, .int .i64 day] w (GiveB w true) := by
 have HL := Lib.hid hL; have HI := Lib.hid hI; have HB0 := Lib.hid hB0; clear hL hI hB0
 have HB := Lib.hid H; have HT := Lib.hid hg; clear H hg
 go_enter Tryz.func4, Tryz.ntmps4
 go_wp2_with fail
 have BW := Below.refl w.heap.size w
 have b0 : Below w.heap.size w w := Below.refl _ _
 refine (fixed8_any HB.out _ (HB.out.below HT.out b0)).mono ?_
 rintro e w1 ⟨rfl, b⟩
 have b1 := Below.more b0 b
 clear b
 go_wp2_with fail
 refine (CS1.out _ (Below.more BW b1)).mono ?_
 rintro e w2 ⟨rfl, b⟩
 have b2 := Below.more b1 b
 clear b
 go_wp2_with fail
 refine (CS2.out _ (Below.more BW b2)).mono ?_
 rintro e w3 ⟨rfl, b⟩
 have b3 := Below.more b2 b
 clear b
 go_wp2_with fail
 refine (CS3.out _ (Below.more BW b3)).mono ?_
 rintro e w4 ⟨rfl, b⟩
 have b4 := Below.more b3 b
 clear b
 go_wp2_with fail
 refine (CS4.out _ (Below.more BW b4)).mono ?_
 rintro e w5 ⟨rfl, b⟩
 have b5 := Below.more b4 b
 clear b
 go_wp2_with fail
 refine (CR.out _ (Below.more BW b5) (HB.out.below HT.out b5)).mono ?_
 rintro e U6 ⟨⟨pb1, cb1, pi1, ci1, pn1, cn1, rfl, ⟨hb1, hi1, hn1⟩, l1, l2, l3⟩, b⟩
 have bU := Below.more b5 b
 clear b
 replace BW := Below.more BW bU
 replace HT := Lib.hid (HB.out.below HT.out bU)
 have LB1 := Lib.hid l1; have LI1 := Lib.hid l2; have LN1 := Lib.hid l3
 clear l1 l2 l3 bU
 have b6 := Below.refl U6.heap.size U6
 go_wp2_with fail
 refine (CMC.out _ _ _ hb1 (LB1.out.below b6)).mono ?_
 rintro e w7 ⟨rfl, b⟩
 have b7 := Below.more b6 b
 clear b
 clear CS1 CS2 CS3 CS4 CR CMC
 go_wp2_with fail
 clear hsum hwr
 go_loopw [11, 12] (fun wt iv wr => ∃ (k : Nat) (r : Option Addr) (cc : Nat), k ≤ l.length ∧ iv = .int .i64 k ∧ wt = .slice r (B k).length cc ∧ (B k).length ≤ cc ∧ Lns wr r (B k) ∧ Below U6.heap.size U6 wr) (fun _ iv _ => l.length - (intOf iv).toNat)
 case atStart => exact ⟨0, p, c, Nat.zero_le _, rfl, by rw [HB0.out], by rw [HB0.out]; exact hc, by rw [HB0.out]; exact HL.out.below (Below.more BW b7), b7⟩
 case round =>
  obtain ⟨Wr, hWr⟩ : ∃ W : World, W = wr := ⟨_, rfl⟩
  subst hWr
  obtain ⟨k, r, cc, hk, rfl, rfl, hcc, hlb, hw⟩ := hrel
  have BX := Below.more BW hw
  have HLb := Lib.hid hlb
  have LI := Lib.hid (LI1.out.below hw); have LN := Lib.hid (LN1.out.below hw); have LC := Lib.hid (LB1.out.below hw)
  have HTx := Lib.hid (HB.out.below HT.out hw)
  have HW := Lib.hid hw
  clear hw hlb b7 LI1 LN1 LB1 HB0
  by_cases hlt : k < l.length
  ·obtain ⟨⟨i, g, u, f, t, a, ⟨qn, qd⟩, ⟨pn, pd⟩⟩, hx⟩ : ∃ x, l[k]? = some x := ⟨_, List.getElem?_eq_getElem hlt⟩
   obtain ⟨b, o, rfl, k0, k1, k2, k3, k4, k5, k6, k7, k8, k9⟩ := (HI.out.below BX).rule hx
   have cl := CL.out k _ hx
   have cad := CAD.out k _ hx
   have hss := HSN.out k _ hx
   have hsd := HSD.out k _ hx
   have hae := HAE.out k _ hx
   have cf := CF.out i
   have hll := lines_len (In.mk i g u f t a (qn, qd) (pn, pd))
   dsimp only at cl cad hss hsd hae cf
   generalize linesI (In.mk i g u f t a (qn, qd) (pn, pd)) = LL at cl cad hae hll
   generalize fd i = z at cf hsd
   have CLk := Lib.hid cl; have CADk := Lib.hid cad; have HSk := Lib.hid hss; have HDk := Lib.hid hsd; have HAk := Lib.hid hae; have CFk := Lib.hid cf
   have hki : (k : Int) < (l.length : Int) := by omega
   have hk0 : (0 : Int) ≤ (k : Int) := by omega
   have b0 := Below.refl Wr.heap.size Wr
   have hB := Lib.hid (Nat.le_refl Wr.heap.size)
   clear cl cad hss hsd hae cf hx CL CAD HSN HSD HAE CF CZ CG CY FRE CT CU HCB
   go_wp2_with fail
   refine (CFk.out _ _ _ hi1 LI.out).mono ?_
   rintro e w9 ⟨rfl, b9⟩
   go_wp2_with fail
   go_loopw [14, 15] (fun dv jv v => ∃ j : Nat, j ≤ N.length ∧ jv = .int .i64 j ∧ dv = .bool (SN k j) ∧ Below Wr.heap.size Wr v) (fun _ jv _ => N.length - (intOf jv).toNat)
   case atStart => exact ⟨0, Nat.zero_le _, rfl, by rw [HSk.out.1], b9⟩
   case round =>
    clear b9
    obtain ⟨j, hj, rfl, rfl, hv⟩ := hrel
    have HV := Lib.hid hv
    by_cases hjl : j < N.length
    ·obtain ⟨n, hn⟩ : ∃ n, N[j]? = some n := ⟨_, List.getElem?_eq_getElem hjl⟩
     have hst := HSk.out.2 j n hn
     obtain ⟨nb, no, hp', m0⟩ := LN.out.rule hn
     subst hp'
     have hji : (j : Int) < (N.length : Int) := by omega
     have hj0 : (0 : Int) ≤ (j : Int) := by omega
     clear hn hv HDk HAk CLk CADk
     cases hS : SN k j with
     | true =>
      rw [hS, Bool.true_or] at hst
      have HST := Lib.hid hst
      clear hst hS
      go_wp2_with fail
      refine wp_region_noPanic ?_
      refine wp_region_held_drew (S := fun w' => Below Wr.heap.size Wr w') (by kernel_rfl) (HV.out.drew) (fun hH0 => ?_)
      refine sch_in [0, 1, 2, 3, 4, 5, 6, 7, 8, 9, 10, 11, 12, 13] ?_
      iterate 14 (first | (refine sch_no rfl (by kernel_rfl) (by rfl) (by assumption) ?_; try simp only [Act.put, qA, qB, qC, qD, qE, qF]) | (refine sch_yes (v := ?_) rfl (by kernel_rfl) (by rfl) ?_ (by assumption) ?_; rotate_left 1; (· (intro w hSw; (try dsimp only at hSw); go_simp <;> (with_reducible rfl))); try simp only [Act.put, qA, qB, qC, qD, qE, qF]))
      refine sch_out ?_
      refine wpAnyH_done (by kernel_rfl) ?_ _
      refine NoPanic.normal ?_
      have b10 := hH0
      clear hH0
      go_wp2_with fail
      go_roundw
      case rel => exact ⟨j + 1, hjl, by go_num, by rw [HST.out], b10⟩
      case measure => simp [intOf]; omega
     | false =>
      rw [hS, Bool.false_or] at hst
      by_cases hni : n = i
      ·have HST : Hid (SN k (j + 1) = true) := Lib.hid (by rw [hst, decide_eq_true hni])
       clear hst hS
       go_wp2_with fail
       refine wp_region_noPanic ?_
       refine wp_region_held_drew (S := fun w' => Below Wr.heap.size Wr w') (by kernel_rfl) (HV.out.drew) (fun hH0 => ?_)
       refine sch_in [0, 1, 2, 3, 4, 5, 6, 7, 8, 9, 10, 11, 12, 13] ?_
       iterate 14 (refine sch_yes (v := ?_) rfl (by kernel_rfl) (by rfl) ?_ (by assumption) ?_; rotate_left 1; (· (intro w hSw; (try dsimp only at hSw); go_simp <;> (with_reducible rfl))); try simp only [Act.put, qA, qB, qC, qD, qE, qF])
       refine sch_out ?_
       refine wpAnyH_done (by kernel_rfl) ?_ _
       refine NoPanic.normal ?_
       have b10 := hH0
       clear hH0
       go_wp2_with fail
       go_roundw
       case rel => exact ⟨j + 1, hjl, by go_num, by rw [HST.out], b10⟩
       case measure => simp [intOf]; omega
      ·have HST : Hid (SN k (j + 1) = false) := Lib.hid (by rw [hst, decide_eq_false hni])
       have hn2 : (n == i) = false := beq_false_of_ne hni
       have hn3 : decide (n = i) = false := decide_eq_false hni
       clear hst hS
       go_wp2_with fail
       refine wp_region_noPanic ?_
       refine wp_region_held_drew (S := fun w' => Below Wr.heap.size Wr w') (by kernel_rfl) (HV.out.drew) (fun hH0 => ?_)
       refine sch_in [0, 1, 2, 3, 4, 5, 6, 7, 8, 9, 10, 11, 12, 13] ?_
       iterate 14 (refine sch_yes (v := ?_) rfl (by kernel_rfl) (by rfl) ?_ (by assumption) ?_; rotate_left 1; (· (intro w hSw; (try dsimp only at hSw); go_simp <;> (with_reducible rfl))); try simp only [Act.put, qA, qB, qC, qD, qE, qF])
       refine sch_out ?_
       refine wpAnyH_done (by kernel_rfl) ?_ _
       refine NoPanic.normal ?_
       have b10 := hH0
       clear hH0
       go_wp2_with fail
       go_roundw
       case rel => exact ⟨j + 1, hjl, by go_num, by rw [HST.out], b10⟩
       case measure => simp [intOf]; omega
    ·obtain rfl : j = N.length := by omega
     have hd1 := HDk.out
     clear HDk HSk CFk hj hjl LN
     cases hS : SN k N.length with
     | true =>
      obtain ⟨hz, hu⟩ := hd1.1 hS
      have hAE := Lib.hid (HAk.out.1 hS)
      have CADx := Lib.hid (fun j y hy => CADk.out hS j y hy)
      clear hd1 hS HAk CADk
      go_wp2_with fail
      refine (CLk.out _).mono ?_
      rintro e w10 ⟨⟨px, cx, rfl, hcx, hlx⟩, b10⟩
      have HX := Lib.hid hlx
      have HY := Lib.hid (Below.more hv b10)
      clear hlx hv b10 CLk k0 k1 k2 k3 k4 k5 k6 k7 k8 k9 HV
      go_wp2_with fail
      go_loopw [11, 17] (fun wt jv v => ∃ (j : Nat) (r' : Option Addr) (c' : Nat), j ≤ LL.length ∧ jv = .int .i64 j ∧ wt = .slice r' (AA k j).length c' ∧ (AA k j).length ≤ c' ∧ Lns v r' (AA k j) ∧ Below w10.heap.size w10 v) (fun _ jv _ => LL.length - (intOf jv).toNat)
      case atStart => exact ⟨0, r, cc, Nat.zero_le _, rfl, by rw [hAE.out.1], by rw [hAE.out.1]; exact hcc, by rw [hAE.out.1]; exact HLb.out.below HY.out, Below.refl _ _⟩
      case round =>
       obtain ⟨j, r', c', hj, rfl, rfl, hc', hl', hv'⟩ := hrel
       have HL' := Lib.hid hl'; have HV' := Lib.hid hv'
       clear hl'
       by_cases hjl : j < LL.length
       ·obtain ⟨⟨⟨ya, ys⟩, ⟨y1, y2⟩⟩, hy⟩ : ∃ x, LL[j]? = some x := ⟨_, List.getElem?_eq_getElem hjl⟩
        obtain ⟨lb, lo, hp', m0, m1, m2, m3⟩ := HX.out.rule hy
        subst hp'
        have ca := CADx.out j _ hy
        dsimp only at ca
        have CAj := Lib.hid ca
        have hji : (j : Int) < (LL.length : Int) := by omega
        have hj0 : (0 : Int) ≤ (j : Int) := by omega
        clear ca hy CADx hAE
        go_wp2_with fail
        refine (CAj.out _ r' c' hc' HL'.out).mono ?_
        rintro e w11 ⟨⟨r2, c2, bb, rfl, hc2, hl2⟩, b11⟩
        go_wp2_with fail
        go_roundw
        case rel => exact ⟨j + 1, r2, c2, hjl, by go_num, rfl, hc2, hl2, Below.more HV'.out b11⟩
        case measure => simp [intOf]; omega
       ·obtain rfl : j = LL.length := by omega
        clear hv' CADx
        go_wp2_with fail
        go_roundw
        case rel => exact ⟨k + 1, r', c', hlt, by go_num, by rw [hAE.out.2], by rw [← hAE.out.2]; exact hc', by rw [← hAE.out.2]; exact HL'.out, Below.more HW.out (Below.more HY.out HV'.out)⟩
        case measure => simp [intOf]; omega
     | false =>
      have hz := hd1.2 hS
      have hAE := Lib.hid (HAk.out.2 hS)
      clear hd1 hS HAk CADk
      go_wp2_with fail
      refine (CLk.out _).mono ?_
      rintro e w10 ⟨⟨px, cx, rfl, hcx, hlx⟩, b10⟩
      have HY := Lib.hid (Below.more hv b10)
      clear hlx hv b10 CLk k0 k1 k2 k3 k4 k5 k6 k7 k8 k9 HV
      go_wp2_with fail
      go_loopw [11, 17] (fun wt jv v => jv = .int .i64 0 ∧ wt = .slice r (B k).length cc ∧ Below w10.heap.size w10 v) (fun _ _ _ => 0)
      case atStart => exact ⟨rfl, rfl, Below.refl _ _⟩
      case round =>
       obtain ⟨rfl, rfl, hv'⟩ := hrel
       go_wp2_with fail
       go_roundw
       case rel => exact ⟨k + 1, r, cc, hlt, by go_num, by rw [hAE.out], by rw [hAE.out]; exact hcc, by rw [hAE.out]; exact HLb.out.below (Below.more HY.out hv'), Below.more HW.out (Below.more HY.out hv')⟩
       case measure => simp [intOf]; omega
  ·obtain rfl : k = l.length := by omega
   rw [HCB.out] at HLb hcc
   clear CL CAD HSN HSD HAE CF hlt hk
   go_wp2_with fail
   try simp only [HCB.out]
   go_loopw [20] (fun jv v => ∃ j : Nat, j ≤ CC.length ∧ jv = .int .i64 j ∧ Below Wr.heap.size Wr v) (fun jv _ => CC.length - (intOf jv).toNat)
   case atStart => exact ⟨0, Nat.zero_le _, rfl, Below.refl _ _⟩
   case round =>
    obtain ⟨j, hj, rfl, hv⟩ := hrel
    have HV := Lib.hid hv
    by_cases hjl : j < CC.length
    ·obtain ⟨⟨⟨ya, ys⟩, ⟨y1, y2⟩⟩, hy⟩ : ∃ x, CC[j]? = some x := ⟨_, List.getElem?_eq_getElem hjl⟩
     obtain ⟨lb, lo, hp', m0, m1, m2, m3⟩ := LC.out.rule hy
     subst hp'
     have cz := CZ.out j _ hy
     have cg := CG.out j _ hy
     have cy := CY.out j _ hy
     have fr := FRE.out j _ hy
     dsimp only at cz cg cy fr
     generalize sg j = z at cz fr
     generalize ss j = y at cy fr
     generalize gg j = gj at cg cy
     generalize (⟨ya.toArray⟩ : ByteArray) = sa at m0 cg fr
     obtain ⟨hp0, hfr⟩ := fr
     have hpi : (0 : Int) < (sa.size : Int) := by omega
     have CZ1 := Lib.hid cz; have CG1 := Lib.hid cg; have CY1 := Lib.hid cy
     have hB := Lib.hid (Nat.le_refl Wr.heap.size)
     have hji : (j : Int) < (CC.length : Int) := by omega
     have hj0 : (0 : Int) ≤ (j : Int) := by omega
     clear cz cg cy hy CZ CG CY FRE CT CU hv
     by_cases h33 : (sa[0].toNat : Int) = 33
     ·clear hfr
      go_wp2_with fail
      refine wp_region_noPanic ?_
      refine wp_region_held_drew (S := fun w' => Below Wr.heap.size Wr w') (by kernel_rfl) (HV.out.drew) (fun hH0 => ?_)
      refine sch_in [0, 1, 2, 3, 4, 5, 6, 7, 8, 9, 10, 11, 12, 13, 14, 15, 16, 17, 18, 19, 20, 21, 22, 23, 24, 25, 26, 27, 28, 29, 30, 31] ?_
      iterate 32 (first | (refine sch_no rfl (by kernel_rfl) (by rfl) (by assumption) ?_; try simp only [Act.put, qA, qB, qC, qD, qE, qF]) | (refine sch_yes (v := ?_) rfl (by kernel_rfl) (by rfl) ?_ (by assumption) ?_; rotate_left 1; (· (intro w hSw; (try dsimp only at hSw); go_simp <;> (with_reducible rfl))); try simp only [Act.put, qA, qB, qC, qD, qE, qF]))
      refine sch_out ?_
      refine wpAnyH_done (by kernel_rfl) ?_ _
      refine NoPanic.normal ?_
      have b9 := hH0
      clear hH0
      go_wp2_with fail
      go_roundw
      case rel => exact ⟨j + 1, hjl, by go_num, b9⟩
      case measure => simp [intOf]; omega
     ·have h34 : ((sa[0].toNat : Int) == 33) = false := beq_false_of_ne h33
      have h35 : ((sa[0].toNat : Int) != 33) = true := by rw [bne, h34]; rfl
      by_cases z0 : z < 0
      ·have y0 := hfr hp0 h33 z0
       have y2 : decide (0 ≤ y) = false := decide_eq_false (by omega)
       have y3 : decide (y ≥ 0) = false := decide_eq_false (by omega)
       clear hfr
       go_wp2_with fail
       refine wp_region_noPanic ?_
       refine wp_region_held_drew (S := fun w' => Below Wr.heap.size Wr w') (by kernel_rfl) (HV.out.drew) (fun hH0 => ?_)
       refine sch_in [0, 1, 2, 3, 4, 5, 6, 7, 8, 9, 10, 11, 12] ?_
       iterate 13 (refine sch_yes (v := ?_) rfl (by kernel_rfl) (by rfl) ?_ (by assumption) ?_; rotate_left 1; (· (intro w hSw; (try dsimp only at hSw); go_simp <;> (with_reducible rfl))); try simp only [Act.put, qA, qB, qC, qD, qE, qF])
       refine sch_out ?_
       refine wpAnyH_ready (rs := [13]) (by kernel_rfl) (by simp) ?_
       refine AllReadyH.cons rfl (fun K hK => ?_) AllReadyH.nil
       go_simp
       refine (held (W := Wr) hB.out (CZ1.out _) (by assumption)).mono ?_
       rintro e w'' ⟨rfl, hb, hw⟩
       (try go_wp2_with fail)
       refine hK.out _ _ hw (fun hH1 => ?_)
       clear hK hH0 hb
       try simp only [Act.put, qA, qB, qC, qD, qE, qF]
       refine sch_in [14, 15, 16, 17, 18, 19, 20, 21, 22, 23, 24, 25, 26, 27] ?_
       iterate 14 (refine sch_yes (v := ?_) rfl (by kernel_rfl) (by rfl) ?_ (by assumption) ?_; rotate_left 1; (· (intro w hSw; (try dsimp only at hSw); go_simp <;> (with_reducible rfl))); try simp only [Act.put, qA, qB, qC, qD, qE, qF])
       refine sch_out ?_
       refine wpAnyH_ready (rs := [28]) (by kernel_rfl) (by simp) ?_
       refine AllReadyH.cons rfl (fun K hK => ?_) AllReadyH.nil
       go_simp
       refine (held (W := Wr) hB.out (CG1.out _ (Below.more BX (by with_reducible assumption))) (by assumption)).mono ?_
       rintro e w'' ⟨rfl, hb, hw⟩
       (try go_wp2_with fail)
       refine hK.out _ _ hw (fun hH2 => ?_)
       clear hK hH1 hb
       try simp only [Act.put, qA, qB, qC, qD, qE, qF]
       refine wpAnyH_ready (rs := [29]) (by kernel_rfl) (by simp) ?_
       refine AllReadyH.cons rfl (fun K hK => ?_) AllReadyH.nil
       go_simp
       refine (held (W := Wr) hB.out (CY1.out _) (by assumption)).mono ?_
       rintro e w'' ⟨rfl, hb, hw⟩
       (try go_wp2_with fail)
       refine hK.out _ _ hw (fun hH3 => ?_)
       clear hK hH2 hb
       try simp only [Act.put, qA, qB, qC, qD, qE, qF]
       refine sch_in [30, 31] ?_
       iterate 2 (refine sch_yes (v := ?_) rfl (by kernel_rfl) (by rfl) ?_ (by assumption) ?_; rotate_left 1; (· (intro w hSw; (try dsimp only at hSw); go_simp <;> (with_reducible rfl))); try simp only [Act.put, qA, qB, qC, qD, qE, qF])
       refine sch_out ?_
       refine wpAnyH_done (by kernel_rfl) ?_ _
       refine NoPanic.normal ?_
       have b9 := hw
       clear hw
       go_wp2_with fail
       go_roundw
       case rel => exact ⟨j + 1, hjl, by go_num, b9⟩
       case measure => simp [intOf]; omega
      ·have z1 : decide (z < 0) = false := decide_eq_false z0
       clear hfr
       go_wp2_with fail
       refine wp_region_noPanic ?_
       refine wp_region_held_drew (S := fun w' => Below Wr.heap.size Wr w') (by kernel_rfl) (HV.out.drew) (fun hH0 => ?_)
       refine sch_in [0, 1, 2, 3, 4, 5, 6, 7, 8, 9, 10, 11, 12] ?_
       iterate 13 (refine sch_yes (v := ?_) rfl (by kernel_rfl) (by rfl) ?_ (by assumption) ?_; rotate_left 1; (· (intro w hSw; (try dsimp only at hSw); go_simp <;> (with_reducible rfl))); try simp only [Act.put, qA, qB, qC, qD, qE, qF])
       refine sch_out ?_
       refine wpAnyH_ready (rs := [13]) (by kernel_rfl) (by simp) ?_
       refine AllReadyH.cons rfl (fun K hK => ?_) AllReadyH.nil
       go_simp
       refine (held (W := Wr) hB.out (CZ1.out _) (by assumption)).mono ?_
       rintro e w'' ⟨rfl, hb, hw⟩
       (try go_wp2_with fail)
       refine hK.out _ _ hw (fun hH1 => ?_)
       clear hK hH0 hb
       try simp only [Act.put, qA, qB, qC, qD, qE, qF]
       refine sch_in [14, 15, 16, 17, 18, 19, 20, 21, 22, 23, 24, 25, 26, 27, 28, 29, 30, 31] ?_
       iterate 18 (first | (refine sch_no rfl (by kernel_rfl) (by rfl) (by assumption) ?_; try simp only [Act.put, qA, qB, qC, qD, qE, qF]) | (refine sch_yes (v := ?_) rfl (by kernel_rfl) (by rfl) ?_ (by assumption) ?_; rotate_left 1; (· (intro w hSw; (try dsimp only at hSw); go_simp <;> (with_reducible rfl))); try simp only [Act.put, qA, qB, qC, qD, qE, qF]))
       refine sch_out ?_
       refine wpAnyH_done (by kernel_rfl) ?_ _
       refine NoPanic.normal ?_
       have b9 := hw
       clear hw
       go_wp2_with fail
       go_roundw
       case rel => exact ⟨j + 1, hjl, by go_num, b9⟩
       case measure => simp [intOf]; omega
    ·obtain rfl : j = CC.length := by omega
     clear hv CZ CG CY FRE
     have b0 := HV.out
     have BY := BX
     clear HV
     go_wp2_with fail
     refine (sameB _ _ _ _ CC _ hcl (LC.out.below b0) (HLb.out.below b0)).mono ?_
     rintro e w20 ⟨rfl, b⟩
     have b20 := Below.more b0 b
     clear b
     go_wp2_with fail
     refine (CT.out _ _ _ hb1 (LC.out.below b20)).mono ?_
     rintro e w21 ⟨rfl, b⟩
     have b21 := Below.more b20 b
     clear b
     go_wp2_with fail
     refine (CU.out _ (Below.more BX b21)).mono ?_
     rintro e w22 ⟨rfl, b⟩
     have b22 := Below.more b21 b
     clear b
     go_wp2_with fail
     go_ret
     exact ⟨ret_bool (by first | rfl | simp [*]), Below.more BX b22⟩
end Go.Proofs.YtagfndkfjbbpjaaGreatDoor
/- InstructWhole, all ways joined. -/
namespace Go.Proofs.YtagfndkfjbbpjaaGreatDoor
open Go.RowKit
set_option linter.unusedVariables false
variable {G : World → Prop}
def sgAt (C : List Ln) (j : Nat) : Int := match C[j]? with | some y => sgnR y.2 | none => 0
def ggAt (ls C : List Ln) (j : Nat) : Key := match C[j]? with | some y => getB ls y.1 | none => ([48], [49])
def snAt (l : List In) (N : List Int) (k j : Nat) : Bool := match l[k]? with | some x => (N.take j).any (fun n => decide (n = x.id)) | none => false
def aaAt (ls : List Ln) (l : List In) (day : Int) (k j : Nat) : List Ln := match l[k]? with | some x => addAll (runTo ls l day k).book ((linesI x).take j) | none => []
theorem sgAt_is {C : List Ln} {j : Nat} {y : Ln} (h : C[j]? = some y) : sgAt C j = sgnR y.2 := by unfold sgAt; rw [h]
theorem ggAt_is {ls C : List Ln} {j : Nat} {y : Ln} (h : C[j]? = some y) : ggAt ls C j = getB ls y.1 := by unfold ggAt; rw [h]
theorem snAt_is {l : List In} {N : List Int} {k j : Nat} {x : In} (h : l[k]? = some x) : snAt l N k j = (N.take j).any (fun n => decide (n = x.id)) := by unfold snAt; rw [h]
theorem aaAt_is {ls : List Ln} {l : List In} {day : Int} {k j : Nat} {x : In} (h : l[k]? = some x) : aaAt ls l day k j = addAll (runTo ls l day k).book ((linesI x).take j) := by unfold aaAt; rw [h]
theorem snAt_end {l : List In} {N : List Int} {k : Nat} {x : In} (h : l[k]? = some x) : snAt l N k N.length = true ↔ x.id ∈ N := by
 rw [snAt_is h, List.take_length, List.any_eq_true]
 exact ⟨fun ⟨n, hn, e⟩ => of_decide_eq_true e ▸ hn, fun hn => ⟨_, hn, decide_eq_true rfl⟩⟩
theorem hold_sub {L : List Ln} (hL : Good L) (u : List UInt8) (k : Nat) : (∀ x ∈ (holdB L u).take k, x ∈ L) ∧ ((holdB L u).take k).length ≤ L.length := by
 have e : holdB L u = L.filter fun x => x.1.2 == u := by unfold holdB; rw [good_iff.2 hL]; rfl
 rw [e]
 exact ⟨fun x hx => (List.mem_filter.1 (List.mem_of_mem_take hx)).1, Nat.le_trans (by rw [List.length_take]; exact Nat.min_le_right _ _) (List.length_filter_le _ _)⟩
theorem add_fit {D M : Nat} {ls ms : List Ln} (way : Way D M ls ms) (hg : Good ls) (hok : ∀ x ∈ ms, lineOk x = true) {k : Nat} {x : Ln} (hx : ms[k]? = some x) :
  addB (addAll ls (ms.take k)) x = (addAll ls (ms.take (k + 1)), true) ∧ Fit (addR (getB (addAll ls (ms.take k)) x.1) x.2) := by
 have good : Good (addAll ls (ms.take k)) := (addAll_good hg fun x hx => hok x (List.mem_of_mem_take hx)).1
 have ok := hok x (List.mem_of_getElem? hx)
 obtain ⟨b, e, _, hh, _⟩ := addB_yes good ok
 have e2 : ms.take (k + 1) = ms.take k ++ [x] := by rw [List.take_add_one, hx]; rfl
 have next : addB (addAll ls (ms.take k)) x = (addAll ls (ms.take (k + 1)), true) := by rw [e2, addAll_snoc, e]
 refine ⟨next, ?_⟩
 obtain rfl : b = addAll ls (ms.take (k + 1)) := congrArg Prod.fst (e.symm.trans next)
 have h := way.has hg hok (k + 1) x.1
 rw [hh, if_pos rfl] at h
 rw [getB_rd good]
 have e3 : addR (rd (hasQ (addAll ls (ms.take k)) x.1)) x.2 = rd (hasQ (addAll ls (ms.take k)) x.1 + valR x.2) := by
  unfold addR; rw [isR_rd, ok_rat ok, valR_rd]; rfl
 rw [e3]; exact h
set_option maxHeartbeats 1000000 in
theorem iwhole_any (H : InsC G) (p : Option Addr) (c : Nat) (ls : List Ln) (q : Option Addr) (d : Nat) (l : List In) (day : Int) (w : World) (hc : ls.length ≤ c) (hd : l.length ≤ d) (hl : ls.length ≤ 4611686018427387904) (hl2 : l.length ≤ 4611686018427387904) (hL : Lns w p ls) (hI : Ins w q l) (hg : G w) :
  Calls Tryz.prog 4 #[.slice p ls.length c, .slice q l.length d, .int .i64 day] w (GiveB w true) := by
 have c1 := fun V (hv : Below w.heap.size w V) => rbsmall_any p c ls V hc hl (hL.below hv)
 have c2 := fun V (hv : Below w.heap.size w V) => rismall_any q d l V hd hl2 (hI.below hv)
 cases h1 : smB ls with
 | false => rw [h1] at c1; exact iwhole_0 H p c ls q d l day w hg (Lib.hid c1)
 | true =>
 rw [h1] at c1
 cases h2 : smI l with
 | false => rw [h2] at c2; exact iwhole_1 H p c ls q d l day w hg (Lib.hid c1) (Lib.hid c2)
 | true =>
 rw [h2] at c2
 have W := runW h1 h2
 have c3 := fun V (hv : Below w.heap.size w V) => rbmay_any p c ls V hc (Nat.le_trans W.n1 (by decide)) (fun x hx => (W.zf x hx).szL) (hL.below hv)
 cases h3 : mayB ls with
 | false => rw [h3] at c3; exact iwhole_2 H p c ls q d l day w hg (Lib.hid c1) (Lib.hid c2) (Lib.hid c3)
 | true =>
 rw [h3] at c3
 have c4 := fun V (hv : Below w.heap.size w V) => rimay_any q d l V hl2 W.zi (hI.below hv)
 cases h4 : mayI l with
 | false => rw [h4] at c4; exact iwhole_3 H p c ls q d l day w hg (Lib.hid c1) (Lib.hid c2) (Lib.hid c3) (Lib.hid c4)
 | true =>
 rw [h4] at c4
 have hgd := good_iff.1 h3
 have hgi := goodI_iff.1 h4
 have cr := fun (dy : Int) V (hv : Below w.heap.size w V) (hgv : G V) => H.run p c ls q d l dy _ _ V hc hd (Nat.le_trans W.n1 (by decide)) W.n2 W.zf W.zi W.z W.t W.b (hL.below hv) (hI.below hv) hgv
 have re : ∀ dy : Int, runI ls l dy = ⟨(runTo ls l dy l.length).book, (runTo ls l dy l.length).rest, (runTo ls l dy l.length).done, 0⟩ := fun dy => by unfold runI; rw [h3, h4]; rfl
 have cr0 := cr day
 rw [re] at cr0
 have A := along (ls := ls) (l := l) (day := day) hgd l.length (Nat.le_refl _)
 have hrl := rest_len (ls := ls) (l := l) (day := day) l.length
 have bd := run_end (day := day) W.z.pos hgd W.n2 (W.t hgd) W.b
 obtain ⟨ss, _, _⟩ := small_run (smB_iff.1 h1).1 W.n1 (smI_iff.1 h2).1 W.n2
 have hlen := run_len (l := l) (day := day) hgd l.length (Nat.le_refl _)
 have hcl : (runTo ls l day l.length).book.length ≤ 200 := by have := W.n1; have := W.n2; omega
 have zf : ∀ x ∈ (runTo ls l day l.length).book, SzF x := good_fit A.good bd (ss 161 (by decide))
 have sp := fun (k : Nat) (x : In) (hx : l[k]? = some x) => run_split (ls := ls) (day := day) hgd hgi hx l.length (List.getElem?_eq_some_iff.1 hx).1 (Nat.le_refl _)
 have dn := fun (k : Nat) (x : In) (hx : l[k]? = some x) => (snAt_end (N := (runTo ls l day l.length).done) hx).trans (sp k x hx).1
 refine iwhole_main H p c ls q d l day w hg hL hI hc (fun k => (runTo ls l day k).book) (runTo ls l day l.length).book (runTo ls l day l.length).rest (runTo ls l day l.length).done (fun n => findI (runTo ls l day l.length).rest n 0) (snAt l (runTo ls l day l.length).done) (aaAt ls l day) (sgAt (runTo ls l day l.length).book) (fun j => sgnR (ggAt ls (runTo ls l day l.length).book j)) (ggAt ls (runTo ls l day l.length).book) (totB ls cashT)
  rfl (Nat.le_trans hcl (by decide)) (Nat.le_trans W.n2 (by decide)) (Nat.le_trans hrl.2 (Nat.le_trans W.n2 (by decide))) (Lib.hid rfl) (by have := A.sum; omega) (IntWalk.wrap64_in _ ⟨by omega, by have := W.n2; omega⟩)
  (Lib.hid c1) (Lib.hid c2) (Lib.hid c3) (Lib.hid c4) (Lib.hid cr0) (Lib.hid fun V p' c' k1 k2 => ?_) (Lib.hid fun n V p' c' k1 k2 => ?_) (Lib.hid fun k x hx => ?_) (Lib.hid fun k x hx => ?_) (Lib.hid fun k x hx => ?_) (Lib.hid fun k x hx V => ?_) (Lib.hid fun k x hx hs j y hy V p' c' k1 k2 => ?_) (Lib.hid fun j y hy V => ?_) (Lib.hid fun j y hy V hv => ?_) (Lib.hid fun j y hy V => ?_) (Lib.hid fun j y hy => ?_) (Lib.hid fun V p' c' k1 k2 => ?_) (Lib.hid fun V hv => ?_)
 ·have k := rbmay_any p' c' (runTo ls l day l.length).book V k1 (Nat.le_trans hcl (by decide)) (fun x hx => (zf x hx).szL) k2
  rw [good_iff.2 A.good] at k
  exact k
 ·exact rifind_any p' c' _ n V (Nat.le_trans hrl.1 (Nat.le_trans W.n2 (by decide))) k2
 ·refine ⟨by rw [snAt_is hx]; rfl, fun j n hn => ?_⟩
  rw [snAt_is hx, snAt_is hx, List.take_add_one, hn, List.any_append]
  show (_ || (decide (n = x.id) || false)) = _
  rw [Bool.or_false]
 ·refine ⟨fun h => ?_, fun h => ?_⟩
  ·have e := (dn k x hx).1 h
   have nr := (sp k x hx).2
   have f := find_no (l := (runTo ls l day l.length).rest) (n := x.id) (k := 0) (fun c => by have := nr.1 c; rw [e] at this; cases this)
   refine ⟨by rw [f]; decide, ?_⟩
   unfold doneAt at e
   rw [Bool.and_eq_true] at e
   exact of_decide_eq_true e.1
  ·have e : doneAt ls l day k x = false := by
    cases e : doneAt ls l day k x with
    | false => rfl
    | true => rw [(dn k x hx).2 e] at h; cases h
   exact find_yes ((sp k x hx).2.2 e)
 ·have hk := (List.getElem?_eq_some_iff.1 hx).1
  have Ak := along (ls := ls) (l := l) (day := day) hgd k (Nat.le_of_lt hk)
  refine ⟨fun h => ?_, fun h => ?_⟩
  ·have e := (dn k x hx).1 h
   refine ⟨aaAt_is hx, ?_⟩
   rw [aaAt_is hx, List.take_length]
   show _ = (runTo ls l day (k + 1)).book
   rw [run_more hx, (step_yes Ak.good e).1]
  ·have e : doneAt ls l day k x = false := by
    cases e : doneAt ls l day k x with
    | false => rfl
    | true => rw [(dn k x hx).2 e] at h; cases h
   show (runTo ls l day (k + 1)).book = _
   rw [run_more hx, step_no e]
 ·obtain ⟨i, g, u, f, t, a, ⟨qn, qd⟩, ⟨pn, pd⟩⟩ := x
  exact rilines_any V (W.zi _ (List.mem_of_getElem? hx))
 ·have hk := (List.getElem?_eq_some_iff.1 hx).1
  have ft := run_fits (day := day) W.z hgd (Nat.le_trans W.n1 (by decide)) W.n2 (W.t hgd) W.b k (Nat.le_of_lt hk) (List.mem_of_getElem? hx)
  have hok := lines_ok x
  obtain ⟨e1, e2⟩ := add_fit ft.way ft.good hok hy
  have ea := aaAt_is (ls := ls) (day := day) (j := j) hx
  have eb := aaAt_is (ls := ls) (day := day) (j := j + 1) hx
  rw [ea] at k1 k2 ⊢
  rw [eb]
  have ln := addAll_len ft.good (fun z hz => hok z (List.mem_of_mem_take hz)) (ms := (linesI x).take j)
  have ll := lines_len x
  have ltk : ((linesI x).take j).length ≤ (linesI x).length := by rw [List.length_take]; exact Nat.min_le_right _ _
  have kk := rbadd2_any p' c' (addAll (runTo ls l day k).book ((linesI x).take j)) y.1.1 y.1.2 y.2.1 y.2.2 V k1 (by have := ft.len; omega) (ft.way.fit ft.good hok j) (ft.lines y (List.mem_of_getElem? hy)) (fun _ _ => e2) k2
  have e1' : addB (addAll (runTo ls l day k).book ((linesI x).take j)) ((y.1.1, y.1.2), (y.2.1, y.2.2)) = (addAll (runTo ls l day k).book ((linesI x).take (j + 1)), true) := e1
  rw [e1'] at kk
  refine kk.mono ?_
  rintro e w' ⟨⟨p2, c2, rfl, k3, k4⟩, hb⟩
  exact ⟨⟨p2, c2, true, rfl, k3, k4⟩, hb⟩
 ·have f := (zf y (List.mem_of_getElem? hy)).2
  rw [sgAt_is hy]
  exact rqsign_any ⟨y.2.1.toArray⟩ ⟨y.2.2.toArray⟩ V (by rw [size_of]; exact Nat.le_trans f.1 (by decide)) (by rw [size_of]; exact Nat.le_trans f.2 (by decide))
 ·rw [ggAt_is hy]
  exact rbget_any p c ls y.1.1 y.1.2 V hc hl (fun z hz => (W.zf z hz).szL) (hL.below hv)
 ·have f := get_fit W.zf y.1 h3
  rw [ggAt_is hy]
  exact rqsign_any ⟨(getB ls y.1).1.toArray⟩ ⟨(getB ls y.1).2.toArray⟩ V (by rw [size_of]; exact Nat.le_trans f.1 (by decide)) (by rw [size_of]; exact Nat.le_trans f.2 (by decide))
 ·have hm := List.mem_of_getElem? hy
  have hn := lineIn_ok (A.good.1 y hm)
  have hnm : 0 < y.1.1.length := by
   unfold lineOk isName at hn
   simp only [Bool.and_eq_true, decide_eq_true_eq] at hn
   exact hn.1.2.1
  refine ⟨by rw [size_of]; exact hnm, fun hp h33 hs => ?_⟩
  have hf : isFree y.1.1 = false := by
   have k := free_head hp
   rw [decide_eq_false h33] at k
   exact k
  rw [sgAt_is hy, line_has A.good hm, sgn_rd] at hs
  rw [ggAt_is hy, getB_rd hgd, sgn_rd]
  exact A.low y.1 hf hs
 ·have k := rbtotal2_any p' c' (runTo ls l day l.length).book cashT V k1 (Nat.le_trans hcl (by decide)) zf (fun _ k => sum_fit (good_tame A.good bd) (good_rat A.good) (hold_sub A.good _ k).1 (hold_sub A.good _ k).2 (by rw [Nat.mul_assoc]; exact ss _ (Nat.le_trans (Nat.mul_le_mul_left 161 hcl) (by decide)))) k2
  rw [totB_rd A.good, A.tot, ← totB_rd hgd] at k
  exact k
 ·exact rbtotal2_any p c ls cashT V hc (Nat.le_trans W.n1 (by decide)) W.zf (fun _ k => sum_fit (good_tame hgd (W.t hgd)) (good_rat hgd) (hold_sub hgd _ k).1 (hold_sub hgd _ k).2 (ss _ (Nat.le_trans W.n1 (by decide)))) (hL.below hv)
end Go.Proofs.YtagfndkfjbbpjaaGreatDoor
