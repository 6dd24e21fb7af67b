/- The walk of InstructAgain. -/
import Derived.Test.YtagfndkfjbbpjaaGreatDoorWTells8
namespace Go.Proofs.YtagfndkfjbbpjaaGreatDoor
open Go.RowKit
set_option linter.unusedSimpArgs false
set_option linter.unusedVariables false
variable {G : World → Prop}
set_option maxRecDepth 100000 in
set_option maxHeartbeats 4000000 in
theorem iagain_0 (H : InsC G) (p : Option Addr) (c : Nat) (ls : List Ln) (q : Option Addr) (d : Nat) (l : List In) (day : Int) (w : World) (hg : G w)
  (CS1 : Hid (∀ V, Below w.heap.size w V → Calls Tryz.prog 8 #[.slice p ls.length c] V (GiveB V false))) :
  Calls Tryz.prog 5 #[.slice p ls.length c, .slice q l.length d, .int .i64 day] w (GiveB w true) := by
 have HB := Lib.hid H; have HT := Lib.hid hg; clear H hg
 go_enter Tryz.func5, Tryz.ntmps5
 go_wp2_with fail
 have BW := Below.refl w.heap.size w
 have b0 : Below w.heap.size w w := Below.refl _ _
 refine (fixed8_any HB.out _ (HB.out.below HT.out b0)).mono ?_
 rintro e w1 ⟨rfl, b⟩
 have b1 := Below.more b0 b
 clear b
 go_wp2_with fail
 refine (CS1.out _ (Below.more BW b1)).mono ?_
 rintro e w2 ⟨rfl, b⟩
 have b2 := Below.more b1 b
 clear b
 go_wp2_with fail
 refine (fixed8_any HB.out _ (HB.out.below HT.out b2)).mono ?_
 rintro e w3 ⟨rfl, b⟩
 have b3 := Below.more b2 b
 clear b
 go_wp2_with fail
 go_ret
 exact ⟨rfl, Below.more BW b3⟩
set_option maxRecDepth 100000 in
set_option maxHeartbeats 4000000 in
theorem iagain_1 (H : InsC G) (p : Option Addr) (c : Nat) (ls : List Ln) (q : Option Addr) (d : Nat) (l : List In) (day : Int) (w : World) (hg : G w)
  (CS1 : Hid (∀ V, Below w.heap.size w V → Calls Tryz.prog 8 #[.slice p ls.length c] V (GiveB V true)))
  (CS2 : Hid (∀ V, Below w.heap.size w V → Calls Tryz.prog 9 #[.slice q l.length d] V (GiveB V false))) :
  Calls Tryz.prog 5 #[.slice p ls.length c, .slice q l.length d, .int .i64 day] w (GiveB w true) := by
 have HB := Lib.hid H; have HT := Lib.hid hg; clear H hg
 go_enter Tryz.func5, Tryz.ntmps5
 go_wp2_with fail
 have BW := Below.refl w.heap.size w
 have b0 : Below w.heap.size w w := Below.refl _ _
 refine (fixed8_any HB.out _ (HB.out.below HT.out b0)).mono ?_
 rintro e w1 ⟨rfl, b⟩
 have b1 := Below.more b0 b
 clear b
 go_wp2_with fail
 refine (CS1.out _ (Below.more BW b1)).mono ?_
 rintro e w2 ⟨rfl, b⟩
 have b2 := Below.more b1 b
 clear b
 go_wp2_with fail
 refine (CS2.out _ (Below.more BW b2)).mono ?_
 rintro e w3 ⟨rfl, b⟩
 have b3 := Below.more b2 b
 clear b
 go_wp2_with fail
 refine (fixed8_any HB.out _ (HB.out.below HT.out b3)).mono ?_
 rintro e w4 ⟨rfl, b⟩
 have b4 := Below.more b3 b
 clear b
 go_wp2_with fail
 go_ret
 exact ⟨rfl, Below.more BW b4⟩
set_option maxRecDepth 100000 in
set_option maxHeartbeats 4000000 in
theorem iagain_2 (H : InsC G) (p : Option Addr) (c : Nat) (ls : List Ln) (q : Option Addr) (d : Nat) (l : List In) (day : Int) (w : World) (hg : G w)
  (CS1 : Hid (∀ V, Below w.heap.size w V → Calls Tryz.prog 8 #[.slice p ls.length c] V (GiveB V true)))
  (CS2 : Hid (∀ V, Below w.heap.size w V → Calls Tryz.prog 9 #[.slice q l.length d] V (GiveB V true)))
  (CS3 : Hid (∀ V, Below w.heap.size w V → Calls Tryz.prog 22 #[.slice p ls.length c] V (GiveB V false))) :
  Calls Tryz.prog 5 #[.slice p ls.length c, .slice q l.length d, .int .i64 day] w (GiveB w true) := by
 have HB := Lib.hid H; have HT := Lib.hid hg; clear H hg
 go_enter Tryz.func5, Tryz.ntmps5
 go_wp2_with fail
 have BW := Below.refl w.heap.size w
 have b0 : Below w.heap.size w w := Below.refl _ _
 refine (fixed8_any HB.out _ (HB.out.below HT.out b0)).mono ?_
 rintro e w1 ⟨rfl, b⟩
 have b1 := Below.more b0 b
 clear b
 go_wp2_with fail
 refine (CS1.out _ (Below.more BW b1)).mono ?_
 rintro e w2 ⟨rfl, b⟩
 have b2 := Below.more b1 b
 clear b
 go_wp2_with fail
 refine (CS2.out _ (Below.more BW b2)).mono ?_
 rintro e w3 ⟨rfl, b⟩
 have b3 := Below.more b2 b
 clear b
 go_wp2_with fail
 refine (CS3.out _ (Below.more BW b3)).mono ?_
 rintro e w4 ⟨rfl, b⟩
 have b4 := Below.more b3 b
 clear b
 go_wp2_with fail
 refine (fixed8_any HB.out _ (HB.out.below HT.out b4)).mono ?_
 rintro e w5 ⟨rfl, b⟩
 have b5 := Below.more b4 b
 clear b
 go_wp2_with fail
 go_ret
 exact ⟨rfl, Below.more BW b5⟩
set_option maxRecDepth 100000 in
set_option maxHeartbeats 4000000 in
theorem iagain_3 (H : InsC G) (p : Option Addr) (c : Nat) (ls : List Ln) (q : Option Addr) (d : Nat) (l : List In) (day : Int) (w : World) (hg : G w)
  (CS1 : Hid (∀ V, Below w.heap.size w V → Calls Tryz.prog 8 #[.slice p ls.length c] V (GiveB V true)))
  (CS2 : Hid (∀ V, Below w.heap.size w V → Calls Tryz.prog 9 #[.slice q l.length d] V (GiveB V true)))
  (CS3 : Hid (∀ V, Below w.heap.size w V → Calls Tryz.prog 22 #[.slice p ls.length c] V (GiveB V true)))
  (CS4 : Hid (∀ V, Below w.heap.size w V → Calls Tryz.prog 17 #[.slice q l.length d] V (GiveB V false))) :
  Calls Tryz.prog 5 #[.slice p ls.length c, .slice q l.length d, .int .i64 day] w (GiveB w true) := by
 have HB := Lib.hid H; have HT := Lib.hid hg; clear H hg
 go_enter Tryz.func5, Tryz.ntmps5
 go_wp2_with fail
 have BW := Below.refl w.heap.size w
 have b0 : Below w.heap.size w w := Below.refl _ _
 refine (fixed8_any HB.out _ (HB.out.below HT.out b0)).mono ?_
 rintro e w1 ⟨rfl, b⟩
 have b1 := Below.more b0 b
 clear b
 go_wp2_with fail
 refine (CS1.out _ (Below.more BW b1)).mono ?_
 rintro e w2 ⟨rfl, b⟩
 have b2 := Below.more b1 b
 clear b
 go_wp2_with fail
 refine (CS2.out _ (Below.more BW b2)).mono ?_
 rintro e w3 ⟨rfl, b⟩
 have b3 := Below.more b2 b
 clear b
 go_wp2_with fail
 refine (CS3.out _ (Below.more BW b3)).mono ?_
 rintro e w4 ⟨rfl, b⟩
 have b4 := Below.more b3 b
 clear b
 go_wp2_with fail
 refine (CS4.out _ (Below.more BW b4)).mono ?_
 rintro e w5 ⟨rfl, b⟩
 have b5 := Below.more b4 b
 clear b
 go_wp2_with fail
 refine (fixed8_any HB.out _ (HB.out.below HT.out b5)).mono ?_
 rintro e w6 ⟨rfl, b⟩
 have b6 := Below.more b5 b
 clear b
 go_wp2_with fail
 go_ret
 exact ⟨rfl, Below.more BW b6⟩
set_option maxRecDepth 100000 in
set_option maxHeartbeats 4000000 in
theorem iagain_yes (H : InsC G) (p : Option Addr) (c : Nat) (ls : List Ln) (q : Option Addr) (d : Nat) (l : List In) (day : Int) (w : World) (hg : G w) (B1 B2 : List Ln) (F1 F2 : List In) (N1 N2 : List Int) (n1 n2 n3 m1 m3 : Nat) (e1 : F1.length = n1) (e2 : F2.length = n2) (e3 : N2.length = n3) (e4 : N1.length = m1) (h0 : (0 : Int) < (m1 : Int)) (hs : (n2 : Int) + (n3 : Int) = (n1 : Int)) (hw' : wrap64 (n1 : Int) = (n1 : Int))
  (CS1 : Hid (∀ V, Below w.heap.size w V → Calls Tryz.prog 8 #[.slice p ls.length c] V (GiveB V true)))
  (CS2 : Hid (∀ V, Below w.heap.size w V → Calls Tryz.prog 9 #[.slice q l.length d] V (GiveB V true)))
  (CS3 : Hid (∀ V, Below w.heap.size w V → Calls Tryz.prog 22 #[.slice p ls.length c] V (GiveB V true)))
  (CS4 : Hid (∀ V, Below w.heap.size w V → Calls Tryz.prog 17 #[.slice q l.length d] V (GiveB V true)))
  (CR1 : Hid (∀ V, Below w.heap.size w V → G V → Calls Tryz.prog 11 #[.slice p ls.length c, .slice q l.length d, .int .i64 day] V (GiveRun V ⟨B1, F1, N1, 0⟩)))
  (CR2 : Hid (∀ V, Below w.heap.size w V → G V → ∀ p' c' q' d', B1.length ≤ c' → F1.length ≤ d' → Lns V p' B1 → Ins V q' F1 → Calls Tryz.prog 11 #[.slice p' B1.length c', .slice q' n1 d', .int .i64 day] V (GiveRun V ⟨B2, F2, N2, 0⟩))) :
  Calls Tryz.prog 5 #[.slice p ls.length c, .slice q l.length d, .int .i64 day] w (GiveB w true) := by
 have HB := Lib.hid H; have HT := Lib.hid hg; clear H hg
 go_enter Tryz.func5, Tryz.ntmps5
 go_wp2_with fail
 have BW := Below.refl w.heap.size w
 have b0 : Below w.heap.size w w := Below.refl _ _
 refine (fixed8_any HB.out _ (HB.out.below HT.out b0)).mono ?_
 rintro e w1 ⟨rfl, b⟩
 have b1 := Below.more b0 b
 clear b
 go_wp2_with fail
 refine (CS1.out _ (Below.more BW b1)).mono ?_
 rintro e w2 ⟨rfl, b⟩
 have b2 := Below.more b1 b
 clear b
 go_wp2_with fail
 refine (CS2.out _ (Below.more BW b2)).mono ?_
 rintro e w3 ⟨rfl, b⟩
 have b3 := Below.more b2 b
 clear b
 go_wp2_with fail
 refine (CS3.out _ (Below.more BW b3)).mono ?_
 rintro e w4 ⟨rfl, b⟩
 have b4 := Below.more b3 b
 clear b
 go_wp2_with fail
 refine (CS4.out _ (Below.more BW b4)).mono ?_
 rintro e w5 ⟨rfl, b⟩
 have b5 := Below.more b4 b
 clear b
 go_wp2_with fail
 refine (CR1.out _ (Below.more BW b5) (HB.out.below HT.out b5)).mono ?_
 rintro e U6 ⟨⟨pb1, cb1, pi1, ci1, pn1, cn1, rfl, ⟨hb1, hi1, hn1⟩, l1, l2, l3⟩, b⟩
 have bU := Below.more b5 b
 clear b
 replace BW := Below.more BW bU
 replace HT := Lib.hid (HB.out.below HT.out bU)
 have LB1 := Lib.hid l1; have LI1 := Lib.hid l2; have LN1 := Lib.hid l3
 clear l1 l2 l3 bU
 have b6 := Below.refl U6.heap.size U6
 go_wp2_with fail
 refine (CR2.out _ (Below.more BW b6) (HB.out.below HT.out b6) _ _ _ _ hb1 hi1 (LB1.out.below b6) (LI1.out.below b6)).mono ?_
 rintro e U7 ⟨⟨pb2, cb2, pi2, ci2, pn2, cn2, rfl, ⟨hb2, hi2, hn2⟩, l1, l2, l3⟩, b⟩
 have bU := Below.more b6 b
 clear b
 replace LB1 := Lib.hid (LB1.out.below bU)
 replace LI1 := Lib.hid (LI1.out.below bU)
 replace LN1 := Lib.hid (LN1.out.below bU)
 replace BW := Below.more BW bU
 replace HT := Lib.hid (HB.out.below HT.out bU)
 have LB2 := Lib.hid l1; have LI2 := Lib.hid l2; have LN2 := Lib.hid l3
 clear l1 l2 l3 bU
 have b7 := Below.refl U7.heap.size U7
 clear CS1 CS2 CS3 CS4 CR1 CR2
 go_wp2_with fail
 go_ret
 exact ⟨rfl, Below.more BW b7⟩
set_option maxRecDepth 100000 in
set_option maxHeartbeats 4000000 in
theorem iagain_no (H : InsC G) (p : Option Addr) (c : Nat) (ls : List Ln) (q : Option Addr) (d : Nat) (l : List In) (day : Int) (w : World) (hg : G w) (hL : Lns w p ls) (hI : Ins w q l) (hls : ls.length ≤ 4611686018427387904) (hli : l.length ≤ 4611686018427387904) (hw' : IntKind.i64.wrap ((l.length : Int) + 0) = (l.length : Int))
  (CS1 : Hid (∀ V, Below w.heap.size w V → Calls Tryz.prog 8 #[.slice p ls.length c] V (GiveB V true)))
  (CS2 : Hid (∀ V, Below w.heap.size w V → Calls Tryz.prog 9 #[.slice q l.length d] V (GiveB V true)))
  (CS3 : Hid (∀ V, Below w.heap.size w V → Calls Tryz.prog 22 #[.slice p ls.length c] V (GiveB V true)))
  (CS4 : Hid (∀ V, Below w.heap.size w V → Calls Tryz.prog 17 #[.slice q l.length d] V (GiveB V true)))
  (CR1 : Hid (∀ V, Below w.heap.size w V → G V → Calls Tryz.prog 11 #[.slice p ls.length c, .slice q l.length d, .int .i64 day] V (GiveRun V ⟨ls, l, [], 0⟩)))
  (CR2 : Hid (∀ V, Below w.heap.size w V → G V → ∀ p' c' q' d', ls.length ≤ c' → l.length ≤ d' → Lns V p' ls → Ins V q' l → Calls Tryz.prog 11 #[.slice p' ls.length c', .slice q' l.length d', .int .i64 day] V (GiveRun V ⟨ls, l, [], 0⟩))) :
  Calls Tryz.prog 5 #[.slice p ls.length c, .slice q l.length d, .int .i64 day] w (GiveB w true) := by
 have HL := Lib.hid hL; have HI := Lib.hid hI; clear hL hI
 have HB := Lib.hid H; have HT := Lib.hid hg; clear H hg
 go_enter Tryz.func5, Tryz.ntmps5
 go_wp2_with fail
 have BW := Below.refl w.heap.size w
 have b0 : Below w.heap.size w w := Below.refl _ _
 refine (fixed8_any HB.out _ (HB.out.below HT.out b0)).mono ?_
 rintro e w1 ⟨rfl, b⟩
 have b1 := Below.more b0 b
 clear b
 go_wp2_with fail
 refine (CS1.out _ (Below.more BW b1)).mono ?_
 rintro e w2 ⟨rfl, b⟩
 have b2 := Below.more b1 b
 clear b
 go_wp2_with fail
 refine (CS2.out _ (Below.more BW b2)).mono ?_
 rintro e w3 ⟨rfl, b⟩
 have b3 := Below.more b2 b
 clear b
 go_wp2_with fail
 refine (CS3.out _ (Below.more BW b3)).mono ?_
 rintro e w4 ⟨rfl, b⟩
 have b4 := Below.more b3 b
 clear b
 go_wp2_with fail
 refine (CS4.out _ (Below.more BW b4)).mono ?_
 rintro e w5 ⟨rfl, b⟩
 have b5 := Below.more b4 b
 clear b
 go_wp2_with fail
 refine (CR1.out _ (Below.more BW b5) (HB.out.below HT.out b5)).mono ?_
 rintro e U6 ⟨⟨pb1, cb1, pi1, ci1, pn1, cn1, rfl, ⟨hb1, hi1, hn1⟩, l1, l2, l3⟩, b⟩
 have bU := Below.more b5 b
 clear b
 replace BW := Below.more BW bU
 replace HT := Lib.hid (HB.out.below HT.out bU)
 have LB1 := Lib.hid l1; have LI1 := Lib.hid l2; have LN1 := Lib.hid l3
 clear l1 l2 l3 bU
 have b6 := Below.refl U6.heap.size U6
 go_wp2_with fail
 refine (CR2.out _ (Below.more BW b6) (HB.out.below HT.out b6) _ _ _ _ hb1 hi1 (LB1.out.below b6) (LI1.out.below b6)).mono ?_
 rintro e U7 ⟨⟨pb2, cb2, pi2, ci2, pn2, cn2, rfl, ⟨hb2, hi2, hn2⟩, l1, l2, l3⟩, b⟩
 have bU := Below.more b6 b
 clear b
 replace LB1 := Lib.hid (LB1.out.below bU)
 replace LI1 := Lib.hid (LI1.out.below bU)
 replace LN1 := Lib.hid (LN1.out.below bU)
 replace BW := Below.more BW bU
 replace HT := Lib.hid (HB.out.below HT.out bU)
 have LB2 := Lib.hid l1; have LI2 := Lib.hid l2; have LN2 := Lib.hid l3
 clear l1 l2 l3 bU
 have b7 := Below.refl U7.heap.size U7
 clear CS1 CS2 CS3 CS4 CR1 CR2
 go_wp2_with fail
 refine (sameB _ _ _ _ ls _ hls (LB1.out.below b7) (HL.out.below (Below.more BW b7))).mono ?_
 rintro e w8 ⟨rfl, b⟩
 have b8 := Below.more b7 b
 clear b
 go_wp2_with fail
 refine (sameB _ _ _ _ ls _ hls (LB2.out.below b8) (HL.out.below (Below.more BW b8))).mono ?_
 rintro e w9 ⟨rfl, b⟩
 have b9 := Below.more b8 b
 clear b
 go_wp2_with fail
 refine (sameI _ _ _ _ l _ hli (LI2.out.below b9) (HI.out.below (Below.more BW b9))).mono ?_
 rintro e w10 ⟨rfl, b⟩
 have b10 := Below.more b9 b
 clear b
 go_wp2_with fail
 go_ret
 exact ⟨rfl, Below.more BW b10⟩
theorem iagain_any (H : InsC G) (p : Option Addr) (c : Nat) (ls : List Ln) (q : Option Addr) (d : Nat) (l : List In) (day : Int) (w : World) (hc : ls.length ≤ c) (hd : l.length ≤ d) (hl : ls.length ≤ 4611686018427387904) (hl2 : l.length ≤ 4611686018427387904) (hL : Lns w p ls) (hI : Ins w q l) (hg : G w) :
  Calls Tryz.prog 5 #[.slice p ls.length c, .slice q l.length d, .int .i64 day] w (GiveB w true) := by
 have c1 := fun V (hv : Below w.heap.size w V) => rbsmall_any p c ls V hc hl (hL.below hv)
 have c2 := fun V (hv : Below w.heap.size w V) => rismall_any q d l V hd hl2 (hI.below hv)
 cases h1 : smB ls with
 | false => rw [h1] at c1; exact iagain_0 H p c ls q d l day w hg (Lib.hid c1)
 | true =>
 rw [h1] at c1
 cases h2 : smI l with
 | false => rw [h2] at c2; exact iagain_1 H p c ls q d l day w hg (Lib.hid c1) (Lib.hid c2)
 | true =>
 rw [h2] at c2
 have W := runW h1 h2
 have c3 := fun V (hv : Below w.heap.size w V) => rbmay_any p c ls V hc (Nat.le_trans W.n1 (by decide)) (fun x hx => (W.zf x hx).szL) (hL.below hv)
 cases h3 : mayB ls with
 | false => rw [h3] at c3; exact iagain_2 H p c ls q d l day w hg (Lib.hid c1) (Lib.hid c2) (Lib.hid c3)
 | true =>
 rw [h3] at c3
 have c4 := fun V (hv : Below w.heap.size w V) => rimay_any q d l V hl2 W.zi (hI.below hv)
 cases h4 : mayI l with
 | false => rw [h4] at c4; exact iagain_3 H p c ls q d l day w hg (Lib.hid c1) (Lib.hid c2) (Lib.hid c3) (Lib.hid c4)
 | true =>
 rw [h4] at c4
 have hgd := good_iff.1 h3
 have hgi := goodI_iff.1 h4
 have cr := fun (dy : Int) V (hv : Below w.heap.size w V) (hgv : G V) => H.run p c ls q d l dy _ _ V hc hd (Nat.le_trans W.n1 (by decide)) W.n2 W.zf W.zi W.z W.t W.b (hL.below hv) (hI.below hv) hgv
 have re : ∀ dy : Int, runI ls l dy = ⟨(runTo ls l dy l.length).book, (runTo ls l dy l.length).rest, (runTo ls l dy l.length).done, 0⟩ := fun dy => by unfold runI; rw [h3, h4]; rfl
 have A := along (ls := ls) (l := l) (day := day) hgd l.length (Nat.le_refl _)
 have cr1 := cr day
 rw [re] at cr1
 have hrl := rest_len (ls := ls) (l := l) (day := day) l.length
 have hsub := rest_good (ls := ls) (l := l) (day := day) hgi l.length (Nat.le_refl _)
 rw [List.take_length] at hsub
 have g2 := rest_goodI (ls := ls) (day := day) hgi
 have bd := run_end (day := day) W.z.pos hgd W.n2 (W.t hgd) W.b
 obtain ⟨ss, _, _⟩ := small_run (smB_iff.1 h1).1 W.n1 (smI_iff.1 h2).1 W.n2
 have hlen := run_len (l := l) (day := day) hgd l.length (Nat.le_refl _)
 have zf : ∀ x ∈ (runTo ls l day l.length).book, SzF x := good_fit A.good bd (ss 161 (by decide))
 have cr2 := fun V (hv : Below w.heap.size w V) (hgv : G V) p' c' q' d' (k1 : (runTo ls l day l.length).book.length ≤ c') (k2 : (runTo ls l day l.length).rest.length ≤ d') (k3 : Lns V p' (runTo ls l day l.length).book) (k4 : Ins V q' (runTo ls l day l.length).rest) =>
  H.run p' c' (runTo ls l day l.length).book q' d' (runTo ls l day l.length).rest day (Di ls l) (Ms * 161) V k1 k2 (by have := W.n1; have := W.n2; omega) (Nat.le_trans hrl.1 W.n2) zf (fun x hx => W.zi x (hsub.subset hx)) (by rw [Nat.mul_assoc]; exact ss _ (by decide)) (fun _ => bd)
   (fun x hx o => ⟨(W.b x (hsub.subset hx) o).1.mono (Nat.le_mul_of_pos_right _ (by decide)), (W.b x (hsub.subset hx) o).2.mono (Nat.le_mul_of_pos_right _ (by decide))⟩) k3 k4 hgv
 have re2 : runI (runTo ls l day l.length).book (runTo ls l day l.length).rest day = ⟨(runTo (runTo ls l day l.length).book (runTo ls l day l.length).rest day (runTo ls l day l.length).rest.length).book, (runTo (runTo ls l day l.length).book (runTo ls l day l.length).rest day (runTo ls l day l.length).rest.length).rest, (runTo (runTo ls l day l.length).book (runTo ls l day l.length).rest day (runTo ls l day l.length).rest.length).done, 0⟩ := by
  unfold runI; rw [good_iff.2 A.good, goodI_iff.2 g2]; rfl
 have A2 := along (ls := (runTo ls l day l.length).book) (l := (runTo ls l day l.length).rest) (day := day) A.good _ (Nat.le_refl _)
 by_cases hd0 : (runTo ls l day l.length).done = []
 ·obtain ⟨e1, e2⟩ := A.none hd0
  rw [List.take_length] at e2
  have e : runTo ls l day l.length = ⟨ls, l, []⟩ := by
   have : runTo ls l day l.length = ⟨(runTo ls l day l.length).book, (runTo ls l day l.length).rest, (runTo ls l day l.length).done⟩ := rfl
   rw [this, e1, e2, hd0]
  rw [e] at cr1 cr2 re2
  dsimp only at cr1 cr2 re2
  rw [re2, e] at cr2
  exact iagain_no H p c ls q d l day w hg hL hI hl hl2 (by rw [Int.add_zero]; exact IntWalk.i64_in _ (by omega)) (Lib.hid c1) (Lib.hid c2) (Lib.hid c3) (Lib.hid c4) (Lib.hid cr1) (Lib.hid cr2)
 ·rw [re2] at cr2
  have hs := A2.sum
  have h40 := Nat.le_trans hrl.1 W.n2
  refine iagain_yes H p c ls q d l day w hg _ _ _ _ _ _ _ _ _ _ 0 rfl rfl rfl rfl ?_ ?_ ?_ (Lib.hid c1) (Lib.hid c2) (Lib.hid c3) (Lib.hid c4) (Lib.hid cr1) (Lib.hid cr2)
  ·have := List.length_pos_iff.2 hd0; omega
  ·omega
  ·exact IntWalk.wrap64_in _ ⟨by omega, by omega⟩
end Go.Proofs.YtagfndkfjbbpjaaGreatDoor
