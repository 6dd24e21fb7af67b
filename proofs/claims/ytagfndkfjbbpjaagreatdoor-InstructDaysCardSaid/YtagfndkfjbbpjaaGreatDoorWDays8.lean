/- The walk of InstructDays. -/
import Derived.Test.YtagfndkfjbbpjaaGreatDoorWTells8
namespace Go.Proofs.YtagfndkfjbbpjaaGreatDoor
open Go.RowKit
set_option linter.unusedSimpArgs false
set_option linter.unusedVariables false
variable {G : World → Prop}
set_option maxRecDepth 100000 in
set_option maxHeartbeats 4000000 in
theorem idays_0 (H : InsC G) (p : Option Addr) (c : Nat) (ls : List Ln) (q : Option Addr) (d : Nat) (l : List In) (day : Int) (w : World) (hg : G w)
  (CS1 : Hid (∀ V, Below w.heap.size w V → Calls Tryz.prog 8 #[.slice p ls.length c] V (GiveB V false))) :
  Calls Tryz.prog 7 #[.slice p ls.length c, .slice q l.length d, .int .i64 day] w (GiveB w true) := by
 have HB := Lib.hid H; have HT := Lib.hid hg; clear H hg
 go_enter Tryz.func7, Tryz.ntmps7
 go_wp2_with fail
 have BW := Below.refl w.heap.size w
 have b0 : Below w.heap.size w w := Below.refl _ _
 refine (fixed8_any HB.out _ (HB.out.below HT.out b0)).mono ?_
 rintro e w1 ⟨rfl, b⟩
 have b1 := Below.more b0 b
 clear b
 go_wp2_with fail
 refine (CS1.out _ (Below.more BW b1)).mono ?_
 rintro e w2 ⟨rfl, b⟩
 have b2 := Below.more b1 b
 clear b
 go_wp2_with fail
 refine (fixed8_any HB.out _ (HB.out.below HT.out b2)).mono ?_
 rintro e w3 ⟨rfl, b⟩
 have b3 := Below.more b2 b
 clear b
 go_wp2_with fail
 go_ret
 exact ⟨rfl, Below.more BW b3⟩
set_option maxRecDepth 100000 in
set_option maxHeartbeats 4000000 in
theorem idays_1 (H : InsC G) (p : Option Addr) (c : Nat) (ls : List Ln) (q : Option Addr) (d : Nat) (l : List In) (day : Int) (w : World) (hg : G w)
  (CS1 : Hid (∀ V, Below w.heap.size w V → Calls Tryz.prog 8 #[.slice p ls.length c] V (GiveB V true)))
  (CS2 : Hid (∀ V, Below w.heap.size w V → Calls Tryz.prog 9 #[.slice q l.length d] V (GiveB V false))) :
  Calls Tryz.prog 7 #[.slice p ls.length c, .slice q l.length d, .int .i64 day] w (GiveB w true) := by
 have HB := Lib.hid H; have HT := Lib.hid hg; clear H hg
 go_enter Tryz.func7, Tryz.ntmps7
 go_wp2_with fail
 have BW := Below.refl w.heap.size w
 have b0 : Below w.heap.size w w := Below.refl _ _
 refine (fixed8_any HB.out _ (HB.out.below HT.out b0)).mono ?_
 rintro e w1 ⟨rfl, b⟩
 have b1 := Below.more b0 b
 clear b
 go_wp2_with fail
 refine (CS1.out _ (Below.more BW b1)).mono ?_
 rintro e w2 ⟨rfl, b⟩
 have b2 := Below.more b1 b
 clear b
 go_wp2_with fail
 refine (CS2.out _ (Below.more BW b2)).mono ?_
 rintro e w3 ⟨rfl, b⟩
 have b3 := Below.more b2 b
 clear b
 go_wp2_with fail
 refine (fixed8_any HB.out _ (HB.out.below HT.out b3)).mono ?_
 rintro e w4 ⟨rfl, b⟩
 have b4 := Below.more b3 b
 clear b
 go_wp2_with fail
 go_ret
 exact ⟨rfl, Below.more BW b4⟩
set_option maxRecDepth 100000 in
set_option maxHeartbeats 4000000 in
theorem idays_2 (H : InsC G) (p : Option Addr) (c : Nat) (ls : List Ln) (q : Option Addr) (d : Nat) (l : List In) (day : Int) (w : World) (hg : G w)
  (CS1 : Hid (∀ V, Below w.heap.size w V → Calls Tryz.prog 8 #[.slice p ls.length c] V (GiveB V true)))
  (CS2 : Hid (∀ V, Below w.heap.size w V → Calls Tryz.prog 9 #[.slice q l.length d] V (GiveB V true)))
  (CS3 : Hid (∀ V, Below w.heap.size w V → Calls Tryz.prog 22 #[.slice p ls.length c] V (GiveB V false))) :
  Calls Tryz.prog 7 #[.slice p ls.length c, .slice q l.length d, .int .i64 day] w (GiveB w true) := by
 have HB := Lib.hid H; have HT := Lib.hid hg; clear H hg
 go_enter Tryz.func7, Tryz.ntmps7
 go_wp2_with fail
 have BW := Below.refl w.heap.size w
 have b0 : Below w.heap.size w w := Below.refl _ _
 refine (fixed8_any HB.out _ (HB.out.below HT.out b0)).mono ?_
 rintro e w1 ⟨rfl, b⟩
 have b1 := Below.more b0 b
 clear b
 go_wp2_with fail
 refine (CS1.out _ (Below.more BW b1)).mono ?_
 rintro e w2 ⟨rfl, b⟩
 have b2 := Below.more b1 b
 clear b
 go_wp2_with fail
 refine (CS2.out _ (Below.more BW b2)).mono ?_
 rintro e w3 ⟨rfl, b⟩
 have b3 := Below.more b2 b
 clear b
 go_wp2_with fail
 refine (CS3.out _ (Below.more BW b3)).mono ?_
 rintro e w4 ⟨rfl, b⟩
 have b4 := Below.more b3 b
 clear b
 go_wp2_with fail
 refine (fixed8_any HB.out _ (HB.out.below HT.out b4)).mono ?_
 rintro e w5 ⟨rfl, b⟩
 have b5 := Below.more b4 b
 clear b
 go_wp2_with fail
 go_ret
 exact ⟨rfl, Below.more BW b5⟩
set_option maxRecDepth 100000 in
set_option maxHeartbeats 4000000 in
theorem idays_3 (H : InsC G) (p : Option Addr) (c : Nat) (ls : List Ln) (q : Option Addr) (d : Nat) (l : List In) (day : Int) (w : World) (hg : G w)
  (CS1 : Hid (∀ V, Below w.heap.size w V → Calls Tryz.prog 8 #[.slice p ls.length c] V (GiveB V true)))
  (CS2 : Hid (∀ V, Below w.heap.size w V → Calls Tryz.prog 9 #[.slice q l.length d] V (GiveB V true)))
  (CS3 : Hid (∀ V, Below w.heap.size w V → Calls Tryz.prog 22 #[.slice p ls.length c] V (GiveB V true)))
  (CS4 : Hid (∀ V, Below w.heap.size w V → Calls Tryz.prog 17 #[.slice q l.length d] V (GiveB V false))) :
  Calls Tryz.prog 7 #[.slice p ls.length c, .slice q l.length d, .int .i64 day] w (GiveB w true) := by
 have HB := Lib.hid H; have HT := Lib.hid hg; clear H hg
 go_enter Tryz.func7, Tryz.ntmps7
 go_wp2_with fail
 have BW := Below.refl w.heap.size w
 have b0 : Below w.heap.size w w := Below.refl _ _
 refine (fixed8_any HB.out _ (HB.out.below HT.out b0)).mono ?_
 rintro e w1 ⟨rfl, b⟩
 have b1 := Below.more b0 b
 clear b
 go_wp2_with fail
 refine (CS1.out _ (Below.more BW b1)).mono ?_
 rintro e w2 ⟨rfl, b⟩
 have b2 := Below.more b1 b
 clear b
 go_wp2_with fail
 refine (CS2.out _ (Below.more BW b2)).mono ?_
 rintro e w3 ⟨rfl, b⟩
 have b3 := Below.more b2 b
 clear b
 go_wp2_with fail
 refine (CS3.out _ (Below.more BW b3)).mono ?_
 rintro e w4 ⟨rfl, b⟩
 have b4 := Below.more b3 b
 clear b
 go_wp2_with fail
 refine (CS4.out _ (Below.more BW b4)).mono ?_
 rintro e w5 ⟨rfl, b⟩
 have b5 := Below.more b4 b
 clear b
 go_wp2_with fail
 refine (fixed8_any HB.out _ (HB.out.below HT.out b5)).mono ?_
 rintro e w6 ⟨rfl, b⟩
 have b6 := Below.more b5 b
 clear b
 go_wp2_with fail
 go_ret
 exact ⟨rfl, Below.more BW b6⟩
set_option maxRecDepth 100000 in
set_option maxHeartbeats 4000000 in
theorem idays_main (H : InsC G) (p : Option Addr) (c : Nat) (ls : List Ln) (q : Option Addr) (d : Nat) (l : List In) (day : Int) (w : World) (hg : G w) (hL : Lns w p ls) (hI : Ins w q l) (hls : ls.length ≤ 4611686018427387904) (hli : l.length ≤ 4611686018427387904) (B2 : List Ln) (F2 : List In) (N2 : List Int) (fd : Int → Int) (HFD : Hid (∀ (k : Nat) (x : In), l[k]? = some x → day < x.due → 0 ≤ fd x.id))
  (CS1 : Hid (∀ V, Below w.heap.size w V → Calls Tryz.prog 8 #[.slice p ls.length c] V (GiveB V true)))
  (CS2 : Hid (∀ V, Below w.heap.size w V → Calls Tryz.prog 9 #[.slice q l.length d] V (GiveB V true)))
  (CS3 : Hid (∀ V, Below w.heap.size w V → Calls Tryz.prog 22 #[.slice p ls.length c] V (GiveB V true)))
  (CS4 : Hid (∀ V, Below w.heap.size w V → Calls Tryz.prog 17 #[.slice q l.length d] V (GiveB V true)))
  (CR1 : Hid (∀ V, Below w.heap.size w V → G V → Calls Tryz.prog 11 #[.slice p ls.length c, .slice q l.length d, .int .i64 (-1)] V (GiveRun V ⟨ls, l, [], 0⟩)))
  (CR2 : Hid (∀ V, Below w.heap.size w V → G V → Calls Tryz.prog 11 #[.slice p ls.length c, .slice q l.length d, .int .i64 day] V (GiveRun V ⟨B2, F2, N2, 0⟩)))
  (CF : Hid (∀ (n : Int) V, Below w.heap.size w V → G V → ∀ q' d', F2.length ≤ d' → Ins V q' F2 → Calls Tryz.prog 20 #[.slice q' F2.length d', .int .i64 n] V (GiveI V (fd n)))) :
  Calls Tryz.prog 7 #[.slice p ls.length c, .slice q l.length d, .int .i64 day] w (GiveB w true) := by
 have HL := Lib.hid hL; have HI := Lib.hid hI; clear hL hI
 have HB := Lib.hid H; have HT := Lib.hid hg; clear H hg
 go_enter Tryz.func7, Tryz.ntmps7
 go_wp2_with fail
 have BW := Below.refl w.heap.size w
 have b0 : Below w.heap.size w w := Below.refl _ _
 refine (fixed8_any HB.out _ (HB.out.below HT.out b0)).mono ?_
 rintro e w1 ⟨rfl, b⟩
 have b1 := Below.more b0 b
 clear b
 go_wp2_with fail
 refine (CS1.out _ (Below.more BW b1)).mono ?_
 rintro e w2 ⟨rfl, b⟩
 have b2 := Below.more b1 b
 clear b
 go_wp2_with fail
 refine (CS2.out _ (Below.more BW b2)).mono ?_
 rintro e w3 ⟨rfl, b⟩
 have b3 := Below.more b2 b
 clear b
 go_wp2_with fail
 refine (CS3.out _ (Below.more BW b3)).mono ?_
 rintro e w4 ⟨rfl, b⟩
 have b4 := Below.more b3 b
 clear b
 go_wp2_with fail
 refine (CS4.out _ (Below.more BW b4)).mono ?_
 rintro e w5 ⟨rfl, b⟩
 have b5 := Below.more b4 b
 clear b
 go_wp2_with fail
 refine (CR1.out _ (Below.more BW b5) (HB.out.below HT.out b5)).mono ?_
 rintro e U6 ⟨⟨pb1, cb1, pi1, ci1, pn1, cn1, rfl, ⟨hb1, hi1, hn1⟩, l1, l2, l3⟩, b⟩
 have bU := Below.more b5 b
 clear b
 replace BW := Below.more BW bU
 replace HT := Lib.hid (HB.out.below HT.out bU)
 have LB1 := Lib.hid l1; have LI1 := Lib.hid l2; have LN1 := Lib.hid l3
 clear l1 l2 l3 bU
 have b6 := Below.refl U6.heap.size U6
 go_wp2_with fail
 refine (CR2.out _ (Below.more BW b6) (HB.out.below HT.out b6)).mono ?_
 rintro e U7 ⟨⟨pb2, cb2, pi2, ci2, pn2, cn2, rfl, ⟨hb2, hi2, hn2⟩, l1, l2, l3⟩, b⟩
 have bU := Below.more b6 b
 clear b
 replace LB1 := Lib.hid (LB1.out.below bU)
 replace LI1 := Lib.hid (LI1.out.below bU)
 replace LN1 := Lib.hid (LN1.out.below bU)
 replace BW := Below.more BW bU
 replace HT := Lib.hid (HB.out.below HT.out bU)
 have LB2 := Lib.hid l1; have LI2 := Lib.hid l2; have LN2 := Lib.hid l3
 clear l1 l2 l3 bU
 have b7 := Below.refl U7.heap.size U7
 clear CS1 CS2 CS3 CS4 CR1 CR2
 go_wp2_with fail
 go_loopw [15] (fun i wr => ∃ k : Nat, k ≤ l.length ∧ i = .int .i64 k ∧ Below U7.heap.size U7 wr) (fun i _ => l.length - (intOf i).toNat)
 case atStart => exact ⟨0, Nat.zero_le _, rfl, Below.refl _ _⟩
 case round =>
  obtain ⟨k, hk, rfl, hw⟩ := hrel
  have HW := Lib.hid hw
  by_cases hlt : k < l.length
  ·obtain ⟨⟨i, g, u, f, t, a, ⟨qn, qd⟩, ⟨pn, pd⟩⟩, hx⟩ : ∃ x, l[k]? = some x := ⟨_, List.getElem?_eq_getElem hlt⟩
   obtain ⟨b, o, rfl, k0, k1, k2, k3, k4, k5, k6, k7, k8, k9⟩ := (HI.out.below (Below.more BW hw)).rule hx
   have b0 := Below.refl wr.heap.size wr
   clear k1 k3 k4 k5 k6 k7 k8 k9
   by_cases hdue : day < u
   ·have hf := HFD.out k _ hx hdue
    have cf := CF.out i
    dsimp only at hf cf
    generalize fd i = z at *
    have CFk := Lib.hid fun V (hv : Below wr.heap.size wr V) => cf V (Below.more BW (Below.more HW.out hv)) (HB.out.below HT.out (Below.more HW.out hv)) _ _ hi2 (LI2.out.below (Below.more HW.out hv))
    have hz : ¬ z < 0 := by omega
    clear cf hf hx hw
    go_wp2_with fail
    refine (CFk.out _ b0).mono ?_
    rintro e w9 ⟨rfl, b9⟩
    go_wp2_with fail
    go_roundw
    case rel => exact ⟨k + 1, hlt, by go_num, Below.more HW.out b9⟩
    case measure => simp [intOf]; omega
   ·clear hx hw
    go_wp2_with fail
    go_roundw
    case rel => exact ⟨k + 1, hlt, by go_num, HW.out⟩
    case measure => simp [intOf]; omega
  ·obtain rfl : k = l.length := by omega
   clear hw CF HFD
   have BX := Below.more BW HW.out
   have HT2 := Lib.hid (HB.out.below HT.out HW.out)
   have LB1 := Lib.hid (LB1.out.below HW.out)
   have LI1 := Lib.hid (LI1.out.below HW.out)
   have LN1 := Lib.hid (LN1.out.below HW.out)
   have LB2 := Lib.hid (LB2.out.below HW.out)
   have LI2 := Lib.hid (LI2.out.below HW.out)
   have LN2 := Lib.hid (LN2.out.below HW.out)
   clear BW HW HT
   have HT := HT2
   clear HT2
   have BW := BX
   clear BX
   have b20 := Below.refl wr.heap.size wr
   go_wp2_with fail
   refine (sameB _ _ _ _ ls _ hls (LB1.out.below b20) (HL.out.below (Below.more BW b20))).mono ?_
   rintro e w21 ⟨rfl, b⟩
   have b21 := Below.more b20 b
   clear b
   go_wp2_with fail
   refine (sameI _ _ _ _ l _ hli (LI1.out.below b21) (HI.out.below (Below.more BW b21))).mono ?_
   rintro e w22 ⟨rfl, b⟩
   have b22 := Below.more b21 b
   clear b
   go_wp2_with fail
   go_ret
   exact ⟨rfl, Below.more BW b22⟩
theorem idays_any (H : InsC G) (p : Option Addr) (c : Nat) (ls : List Ln) (q : Option Addr) (d : Nat) (l : List In) (day : Int) (w : World) (hc : ls.length ≤ c) (hd : l.length ≤ d) (hl : ls.length ≤ 4611686018427387904) (hl2 : l.length ≤ 4611686018427387904) (hL : Lns w p ls) (hI : Ins w q l) (hg : G w) :
  Calls Tryz.prog 7 #[.slice p ls.length c, .slice q l.length d, .int .i64 day] w (GiveB w true) := by
 have c1 := fun V (hv : Below w.heap.size w V) => rbsmall_any p c ls V hc hl (hL.below hv)
 have c2 := fun V (hv : Below w.heap.size w V) => rismall_any q d l V hd hl2 (hI.below hv)
 cases h1 : smB ls with
 | false => rw [h1] at c1; exact idays_0 H p c ls q d l day w hg (Lib.hid c1)
 | true =>
 rw [h1] at c1
 cases h2 : smI l with
 | false => rw [h2] at c2; exact idays_1 H p c ls q d l day w hg (Lib.hid c1) (Lib.hid c2)
 | true =>
 rw [h2] at c2
 have W := runW h1 h2
 have c3 := fun V (hv : Below w.heap.size w V) => rbmay_any p c ls V hc (Nat.le_trans W.n1 (by decide)) (fun x hx => (W.zf x hx).szL) (hL.below hv)
 cases h3 : mayB ls with
 | false => rw [h3] at c3; exact idays_2 H p c ls q d l day w hg (Lib.hid c1) (Lib.hid c2) (Lib.hid c3)
 | true =>
 rw [h3] at c3
 have c4 := fun V (hv : Below w.heap.size w V) => rimay_any q d l V hl2 W.zi (hI.below hv)
 cases h4 : mayI l with
 | false => rw [h4] at c4; exact idays_3 H p c ls q d l day w hg (Lib.hid c1) (Lib.hid c2) (Lib.hid c3) (Lib.hid c4)
 | true =>
 rw [h4] at c4
 have hgd := good_iff.1 h3
 have hgi := goodI_iff.1 h4
 have cr := fun (dy : Int) V (hv : Below w.heap.size w V) (hgv : G V) => H.run p c ls q d l dy _ _ V hc hd (Nat.le_trans W.n1 (by decide)) W.n2 W.zf W.zi W.z W.t W.b (hL.below hv) (hI.below hv) hgv
 have re : ∀ dy : Int, runI ls l dy = ⟨(runTo ls l dy l.length).book, (runTo ls l dy l.length).rest, (runTo ls l dy l.length).done, 0⟩ := fun dy => by unfold runI; rw [h3, h4]; rfl
 have a1 : runTo ls l (-1) l.length = ⟨ls, l, []⟩ := by
  have k := run_ahead (ls := ls) (l := l) (day := -1) (fun x hx => by have := (one_parts (hgi.1 x hx)).1; omega) l.length (Nat.le_refl _)
  rw [List.take_length] at k
  exact k
 have cr1 := cr (-1)
 have cr2 := cr day
 rw [re, a1] at cr1
 rw [re] at cr2
 refine idays_main H p c ls q d l day w hg hL hI hl hl2 _ _ _ (fun n => findI (runTo ls l day l.length).rest n 0) (Lib.hid fun k x hx hdue => ?_) (Lib.hid c1) (Lib.hid c2) (Lib.hid c3) (Lib.hid c4) (Lib.hid cr1) (Lib.hid cr2) (Lib.hid fun n V hv hgv q' d' h1 h2 => ?_)
 ·have hk := (List.getElem?_eq_some_iff.1 hx).1
  exact find_yes ((run_split hgd hgi hx l.length hk (Nat.le_refl _)).2.2 (by unfold doneAt; rw [decide_eq_false (by omega)]; rfl))
 ·exact H.find q' d' _ n V h1 (Nat.le_trans (rest_len (ls := ls) (l := l) (day := day) l.length).1 (Nat.le_trans W.n2 (by decide))) h2 hgv
end Go.Proofs.YtagfndkfjbbpjaaGreatDoor
