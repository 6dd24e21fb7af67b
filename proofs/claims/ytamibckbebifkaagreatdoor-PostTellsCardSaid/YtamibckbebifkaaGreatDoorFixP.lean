/- The fixed calls at the head of each statement of layer 7. -/
import Derived.Test.YtamibckbebifkaaGreatDoorPostApi
namespace Go.Proofs.YtamibckbebifkaaGreatDoor
open Go.RowKit
set_option linter.unusedSimpArgs false
set_option linter.unusedVariables false
variable {G : World → Prop}
theorem kp_m1 (w : World) : Calls Tryz.prog 23 #[.string ⟨#[33, 105, 115, 115, 117, 101, 114]⟩, .string ⟨#[97, 110, 110]⟩, .int .i64 2] w
    fun e w' => (∃ p c, e = .returned (.slice p 2 c) ∧ 2 ≤ c ∧ Lns w' p ([(([33, 105, 115, 115, 117, 101, 114], [120]), ([45, 50], [49])), (([97, 110, 110], [120]), ([50], [49]))] : List Ln)) ∧ Below w.heap.size w w' := by
  have h := move_any [33, 105, 115, 115, 117, 101, 114] [97, 110, 110] 2 w (by decide) (by decide)
  rw [mv_1] at h
  exact h
theorem kp_m2 (w : World) : Calls Tryz.prog 23 #[.string ⟨#[97, 110, 110]⟩, .string ⟨#[98, 111, 98]⟩, .int .i64 3] w
    fun e w' => (∃ p c, e = .returned (.slice p 2 c) ∧ 2 ≤ c ∧ Lns w' p ([(([97, 110, 110], [120]), ([45, 51], [49])), (([98, 111, 98], [120]), ([51], [49]))] : List Ln)) ∧ Below w.heap.size w w' := by
  have h := move_any [97, 110, 110] [98, 111, 98] 3 w (by decide) (by decide)
  rw [mv_2] at h
  exact h
theorem kp_m5 (w : World) : Calls Tryz.prog 23 #[.string ⟨#[33, 105, 115, 115, 117, 101, 114]⟩, .string ⟨#[97, 110, 110]⟩, .int .i64 1] w
    fun e w' => (∃ p c, e = .returned (.slice p 2 c) ∧ 2 ≤ c ∧ Lns w' p ([(([33, 105, 115, 115, 117, 101, 114], [120]), ([45, 49], [49])), (([97, 110, 110], [120]), ([49], [49]))] : List Ln)) ∧ Below w.heap.size w w' := by
  have h := move_any [33, 105, 115, 115, 117, 101, 114] [97, 110, 110] 1 w (by decide) (by decide)
  rw [mv_5] at h
  exact h
theorem kp_a1 (H : PostC G) (q : Option Addr) (d : Nat) (hd : 2 ≤ d) (w : World) (k : Lns w q ([(([33, 105, 115, 115, 117, 101, 114], [120]), ([45, 50], [49])), (([97, 110, 110], [120]), ([50], [49]))] : List Ln)) (hg : G w) : Calls Tryz.prog 9 #[.slice none 0 0, .slice q 2 d, .bool true] w
    fun e w' => (∃ p c, e = .returned (.tuple #[.slice p 2 c, .int .i64 0]) ∧ 2 ≤ c ∧ Lns w' p ([(([33, 105, 115, 115, 117, 101, 114], [120]), ([45, 50], [49])), (([97, 110, 110], [120]), ([50], [49]))] : List Ln)) ∧ Below w.heap.size w w' := by
  have h := H.apply none 0 ([] : List Ln) q d ([(([33, 105, 115, 115, 117, 101, 114], [120]), ([45, 50], [49])), (([97, 110, 110], [120]), ([50], [49]))] : List Ln) true 1 10 w (Nat.le_refl _) hd (by decide) (by decide) (fit_c (by decide +kernel)) (fit_c (by decide +kernel)) (way_c (by decide +kernel) (by decide +kernel) (by decide)) (Lns.nil _ _) k hg
  rw [ap_1] at h
  exact h
theorem kp_a2 (H : PostC G) (p : Option Addr) (c : Nat) (hc : 2 ≤ c) (q : Option Addr) (d : Nat) (hd : 2 ≤ d) (w : World) (h : Lns w p ([(([33, 105, 115, 115, 117, 101, 114], [120]), ([45, 50], [49])), (([97, 110, 110], [120]), ([50], [49]))] : List Ln)) (k : Lns w q ([(([97, 110, 110], [120]), ([45, 51], [49])), (([98, 111, 98], [120]), ([51], [49]))] : List Ln)) (hg : G w) : Calls Tryz.prog 9 #[.slice p 2 c, .slice q 2 d, .bool true] w
    fun e w' => (∃ p c, e = .returned (.tuple #[.slice p 0 c, .int .i64 71]) ∧ 0 ≤ c ∧ Lns w' p ([] : List Ln)) ∧ Below w.heap.size w w' := by
  have h := H.apply p c ([(([33, 105, 115, 115, 117, 101, 114], [120]), ([45, 50], [49])), (([97, 110, 110], [120]), ([50], [49]))] : List Ln) q d ([(([97, 110, 110], [120]), ([45, 51], [49])), (([98, 111, 98], [120]), ([51], [49]))] : List Ln) true 1 10 w hc hd (by decide) (by decide) (fit_c (by decide +kernel)) (fit_c (by decide +kernel)) (way_c (by decide +kernel) (by decide +kernel) (by decide)) h k hg
  rw [ap_2] at h
  exact h
theorem kp_a3 (H : PostC G) (p : Option Addr) (c : Nat) (hc : 2 ≤ c) (q : Option Addr) (d : Nat) (hd : 2 ≤ d) (w : World) (h : Lns w p ([(([33, 105, 115, 115, 117, 101, 114], [120]), ([45, 50], [49])), (([97, 110, 110], [120]), ([50], [49]))] : List Ln)) (k : Lns w q ([(([97, 110, 110], [120]), ([45, 51], [49])), (([98, 111, 98], [120]), ([51], [49]))] : List Ln)) (hg : G w) : Calls Tryz.prog 9 #[.slice p 2 c, .slice q 2 d, .bool false] w
    fun e w' => (∃ p c, e = .returned (.tuple #[.slice p 3 c, .int .i64 0]) ∧ 3 ≤ c ∧ Lns w' p ([(([33, 105, 115, 115, 117, 101, 114], [120]), ([45, 50], [49])), (([97, 110, 110], [120]), ([45, 49], [49])), (([98, 111, 98], [120]), ([51], [49]))] : List Ln)) ∧ Below w.heap.size w w' := by
  have h := H.apply p c ([(([33, 105, 115, 115, 117, 101, 114], [120]), ([45, 50], [49])), (([97, 110, 110], [120]), ([50], [49]))] : List Ln) q d ([(([97, 110, 110], [120]), ([45, 51], [49])), (([98, 111, 98], [120]), ([51], [49]))] : List Ln) false 1 10 w hc hd (by decide) (by decide) (fit_c (by decide +kernel)) (fit_c (by decide +kernel)) (way_c (by decide +kernel) (by decide +kernel) (by decide)) h k hg
  rw [ap_3] at h
  exact h
theorem kp_a4 (H : PostC G) (p : Option Addr) (c : Nat) (hc : 2 ≤ c) (q : Option Addr) (d : Nat) (hd : 1 ≤ d) (w : World) (h : Lns w p ([(([33, 105, 115, 115, 117, 101, 114], [120]), ([45, 50], [49])), (([97, 110, 110], [120]), ([50], [49]))] : List Ln)) (k : Lns w q ([(([97, 110, 110], [120]), ([45, 51], [49]))] : List Ln)) (hg : G w) : Calls Tryz.prog 9 #[.slice p 2 c, .slice q 1 d, .bool true] w
    fun e w' => (∃ p c, e = .returned (.tuple #[.slice p 0 c, .int .i64 70]) ∧ 0 ≤ c ∧ Lns w' p ([] : List Ln)) ∧ Below w.heap.size w w' := by
  have h := H.apply p c ([(([33, 105, 115, 115, 117, 101, 114], [120]), ([45, 50], [49])), (([97, 110, 110], [120]), ([50], [49]))] : List Ln) q d ([(([97, 110, 110], [120]), ([45, 51], [49]))] : List Ln) true 1 10 w hc hd (by decide) (by decide) (fit_c (by decide +kernel)) (fit_c (by decide +kernel)) (way_c (by decide +kernel) (by decide +kernel) (by decide)) h k hg
  rw [ap_4] at h
  exact h
theorem kp_a5 (H : PostC G) (p : Option Addr) (c : Nat) (hc : 3 ≤ c) (q : Option Addr) (d : Nat) (hd : 2 ≤ d) (w : World) (h : Lns w p ([(([33, 105, 115, 115, 117, 101, 114], [120]), ([45, 50], [49])), (([97, 110, 110], [120]), ([45, 49], [49])), (([98, 111, 98], [120]), ([51], [49]))] : List Ln)) (k : Lns w q ([(([33, 105, 115, 115, 117, 101, 114], [120]), ([45, 49], [49])), (([97, 110, 110], [120]), ([49], [49]))] : List Ln)) (hg : G w) : Calls Tryz.prog 9 #[.slice p 3 c, .slice q 2 d, .bool true] w
    fun e w' => (∃ p c, e = .returned (.tuple #[.slice p 2 c, .int .i64 0]) ∧ 2 ≤ c ∧ Lns w' p ([(([33, 105, 115, 115, 117, 101, 114], [120]), ([45, 51], [49])), (([98, 111, 98], [120]), ([51], [49]))] : List Ln)) ∧ Below w.heap.size w w' := by
  have h := H.apply p c ([(([33, 105, 115, 115, 117, 101, 114], [120]), ([45, 50], [49])), (([97, 110, 110], [120]), ([45, 49], [49])), (([98, 111, 98], [120]), ([51], [49]))] : List Ln) q d ([(([33, 105, 115, 115, 117, 101, 114], [120]), ([45, 49], [49])), (([97, 110, 110], [120]), ([49], [49]))] : List Ln) true 1 10 w hc hd (by decide) (by decide) (fit_c (by decide +kernel)) (fit_c (by decide +kernel)) (way_c (by decide +kernel) (by decide +kernel) (by decide)) h k hg
  rw [ap_5] at h
  exact h
theorem kp_b2 (H : PostC G) (q : Option Addr) (d : Nat) (hd : 2 ≤ d) (w : World) (k : Lns w q ([(([97, 110, 110], [120]), ([45, 51], [49])), (([98, 111, 98], [120]), ([51], [49]))] : List Ln)) (hg : G w) : Calls Tryz.prog 14 #[.slice q 2 d] w (GiveB w true) := by
  have h := H.bal q d ([(([97, 110, 110], [120]), ([45, 51], [49])), (([98, 111, 98], [120]), ([51], [49]))] : List Ln) 1 10 w hd (by decide) (fit_c (by decide +kernel)) (sized_c (by decide)) (fun _ x hx => bd_c (List.all_eq_true.1 (show (([(([97, 110, 110], [120]), ([45, 51], [49])), (([98, 111, 98], [120]), ([51], [49]))] : List Ln)).all okW = true from (by decide +kernel)) x hx)) k hg
  rw [bl_2] at h
  exact h
theorem kp_b4 (H : PostC G) (q : Option Addr) (d : Nat) (hd : 1 ≤ d) (w : World) (k : Lns w q ([(([97, 110, 110], [120]), ([45, 51], [49]))] : List Ln)) (hg : G w) : Calls Tryz.prog 14 #[.slice q 1 d] w (GiveB w false) := by
  have h := H.bal q d ([(([97, 110, 110], [120]), ([45, 51], [49]))] : List Ln) 1 10 w hd (by decide) (fit_c (by decide +kernel)) (sized_c (by decide)) (fun _ x hx => bd_c (List.all_eq_true.1 (show (([(([97, 110, 110], [120]), ([45, 51], [49]))] : List Ln)).all okW = true from (by decide +kernel)) x hx)) k hg
  rw [bl_4] at h
  exact h
theorem kp_b0 (H : PostC G) (w : World) (hg : G w) : Calls Tryz.prog 14 #[.slice none 0 0] w (GiveB w true) := by
  have h := H.bal none 0 ([] : List Ln) 1 10 w (Nat.le_refl _) (by decide) (fit_c (by decide +kernel)) (sized_c (by decide)) (fun _ x hx => bd_c (List.all_eq_true.1 (show (([] : List Ln)).all okW = true from (by decide +kernel)) x hx)) (Lns.nil _ _) hg
  rw [bl_0] at h
  exact h
theorem kp_f1 (H : PostC G) (w : World) (hg : G w) : Calls Tryz.prog 11 #[.string ⟨#[33, 114, 111, 117, 110, 100]⟩] w (GiveB w true) := by
  have h := H.free ⟨#[33, 114, 111, 117, 110, 100]⟩ w hg
  rw [show isFree (⟨#[33, 114, 111, 117, 110, 100]⟩ : ByteArray).data.toList = true from (by decide +kernel)] at h
  exact h
theorem kp_f2 (H : PostC G) (w : World) (hg : G w) : Calls Tryz.prog 11 #[.string ⟨#[97, 110, 110]⟩] w (GiveB w false) := by
  have h := H.free ⟨#[97, 110, 110]⟩ w hg
  rw [show isFree (⟨#[97, 110, 110]⟩ : ByteArray).data.toList = false from (by decide +kernel)] at h
  exact h
theorem lns_first {w : World} {p : Option Addr} {x y : Ln} (h : Lns w p [x, y]) : Lns w p [x] := fun j z hz => by
  cases j with
  | zero => exact h 0 z hz
  | succ j => cases hz
set_option maxRecDepth 100000 in
set_option maxHeartbeats 4000000 in
theorem fixed7_any (H : PostC G) (w : World) (hg : G w) :
    Calls Tryz.prog 8 #[] w (GiveB w true) := by
  have HB := Lib.hid H; have HT := Lib.hid hg; clear H hg
  go_enter Tryz.func8, Tryz.ntmps8
  go_wp2_with fail
  have BW := Below.refl w.heap.size w
  have b0 : Below w.heap.size w w := Below.refl _ _
  refine (kp_m1 _).mono ?_
  rintro e U1 ⟨⟨pr1, c1, rfl, hc1, hl1⟩, b⟩
  have bU := Below.more b0 b
  clear b
  replace BW := Below.more BW bU
  replace HT := Lib.hid (HB.out.below HT.out bU)
  have L1 := Lib.hid hl1
  clear hl1 bU
  have b1 := Below.refl U1.heap.size U1
  go_wp2_with fail
  refine (kp_a1 HB.out _ _ hc1 _ (L1.out.below b1) (HB.out.below HT.out b1)).mono ?_
  rintro e U2 ⟨⟨prb, cb, rfl, hcb, hlb⟩, b⟩
  have bU := Below.more b1 b
  clear b
  replace L1 := Lib.hid (L1.out.below bU)
  replace BW := Below.more BW bU
  replace HT := Lib.hid (HB.out.below HT.out bU)
  have Lb := Lib.hid hlb
  clear hlb bU
  have b2 := Below.refl U2.heap.size U2
  go_wp2_with fail
  refine (kp_m2 _).mono ?_
  rintro e U3 ⟨⟨pr2, c2, rfl, hc2, hl2⟩, b⟩
  have bU := Below.more b2 b
  clear b
  replace L1 := Lib.hid (L1.out.below bU)
  replace Lb := Lib.hid (Lb.out.below bU)
  replace BW := Below.more BW bU
  replace HT := Lib.hid (HB.out.below HT.out bU)
  have L2 := Lib.hid hl2
  clear hl2 bU
  have b3 := Below.refl U3.heap.size U3
  go_wp2_with fail
  refine (kp_a2 HB.out _ _ hcb _ _ hc2 _ (Lb.out.below b3) (L2.out.below b3) (HB.out.below HT.out b3)).mono ?_
  rintro e U4 ⟨⟨prx, cx, rfl, hcx, hlx⟩, b⟩
  have bU := Below.more b3 b
  clear b
  replace L1 := Lib.hid (L1.out.below bU)
  replace Lb := Lib.hid (Lb.out.below bU)
  replace L2 := Lib.hid (L2.out.below bU)
  replace BW := Below.more BW bU
  replace HT := Lib.hid (HB.out.below HT.out bU)
  have Lx := Lib.hid hlx
  clear hlx bU
  have b4 := Below.refl U4.heap.size U4
  go_wp2_with fail
  refine (kp_m2 _).mono ?_
  rintro e U5 ⟨⟨pr3, c3, rfl, hc3, hl3⟩, b⟩
  have bU := Below.more b4 b
  clear b
  replace L1 := Lib.hid (L1.out.below bU)
  replace Lb := Lib.hid (Lb.out.below bU)
  replace L2 := Lib.hid (L2.out.below bU)
  replace Lx := Lib.hid (Lx.out.below bU)
  replace BW := Below.more BW bU
  replace HT := Lib.hid (HB.out.below HT.out bU)
  have L3 := Lib.hid hl3
  clear hl3 bU
  have b5 := Below.refl U5.heap.size U5
  go_wp2_with fail
  refine (kp_a3 HB.out _ _ hcb _ _ hc3 _ (Lb.out.below b5) (L3.out.below b5) (HB.out.below HT.out b5)).mono ?_
  rintro e U6 ⟨⟨prc, cc, rfl, hcc, hlc⟩, b⟩
  have bU := Below.more b5 b
  clear b
  replace L1 := Lib.hid (L1.out.below bU)
  replace Lb := Lib.hid (Lb.out.below bU)
  replace L2 := Lib.hid (L2.out.below bU)
  replace Lx := Lib.hid (Lx.out.below bU)
  replace L3 := Lib.hid (L3.out.below bU)
  replace BW := Below.more BW bU
  replace HT := Lib.hid (HB.out.below HT.out bU)
  have Lc := Lib.hid hlc
  clear hlc bU
  have b6 := Below.refl U6.heap.size U6
  go_wp2_with fail
  refine (kp_m2 _).mono ?_
  rintro e U7 ⟨⟨pr4, c4, rfl, hc4, hl4⟩, b⟩
  have bU := Below.more b6 b
  clear b
  replace L1 := Lib.hid (L1.out.below bU)
  replace Lb := Lib.hid (Lb.out.below bU)
  replace L2 := Lib.hid (L2.out.below bU)
  replace Lx := Lib.hid (Lx.out.below bU)
  replace L3 := Lib.hid (L3.out.below bU)
  replace Lc := Lib.hid (Lc.out.below bU)
  replace BW := Below.more BW bU
  replace HT := Lib.hid (HB.out.below HT.out bU)
  have L4 := Lib.hid hl4
  clear hl4 bU
  have b7 := Below.refl U7.heap.size U7
  have L4b := Lib.hid (lns_first L4.out)
  have h41 : 1 ≤ c4 := Nat.le_trans (by decide) hc4
  have h4c : (1 : Int) ≤ (c4 : Int) := by omega
  go_wp2_with fail
  refine (kp_a4 HB.out _ _ hcb _ _ h41 _ (Lb.out.below b7) (L4b.out.below b7) (HB.out.below HT.out b7)).mono ?_
  rintro e U8 ⟨⟨pry, cy, rfl, hcy, hly⟩, b⟩
  have bU := Below.more b7 b
  clear b
  replace L1 := Lib.hid (L1.out.below bU)
  replace Lb := Lib.hid (Lb.out.below bU)
  replace L2 := Lib.hid (L2.out.below bU)
  replace Lx := Lib.hid (Lx.out.below bU)
  replace L3 := Lib.hid (L3.out.below bU)
  replace Lc := Lib.hid (Lc.out.below bU)
  replace L4 := Lib.hid (L4.out.below bU)
  replace BW := Below.more BW bU
  replace HT := Lib.hid (HB.out.below HT.out bU)
  have Ly := Lib.hid hly
  clear hly bU
  have b8 := Below.refl U8.heap.size U8
  go_wp2_with fail
  refine (kp_m5 _).mono ?_
  rintro e U9 ⟨⟨pr5, c5, rfl, hc5, hl5⟩, b⟩
  have bU := Below.more b8 b
  clear b
  replace L1 := Lib.hid (L1.out.below bU)
  replace Lb := Lib.hid (Lb.out.below bU)
  replace L2 := Lib.hid (L2.out.below bU)
  replace Lx := Lib.hid (Lx.out.below bU)
  replace L3 := Lib.hid (L3.out.below bU)
  replace Lc := Lib.hid (Lc.out.below bU)
  replace L4 := Lib.hid (L4.out.below bU)
  replace Ly := Lib.hid (Ly.out.below bU)
  replace BW := Below.more BW bU
  replace HT := Lib.hid (HB.out.below HT.out bU)
  have L5 := Lib.hid hl5
  clear hl5 bU
  have b9 := Below.refl U9.heap.size U9
  go_wp2_with fail
  refine (kp_a5 HB.out _ _ hcc _ _ hc5 _ (Lc.out.below b9) (L5.out.below b9) (HB.out.below HT.out b9)).mono ?_
  rintro e U10 ⟨⟨prd, cd, rfl, hcd, hld⟩, b⟩
  have bU := Below.more b9 b
  clear b
  replace L1 := Lib.hid (L1.out.below bU)
  replace Lb := Lib.hid (Lb.out.below bU)
  replace L2 := Lib.hid (L2.out.below bU)
  replace Lx := Lib.hid (Lx.out.below bU)
  replace L3 := Lib.hid (L3.out.below bU)
  replace Lc := Lib.hid (Lc.out.below bU)
  replace L4 := Lib.hid (L4.out.below bU)
  replace Ly := Lib.hid (Ly.out.below bU)
  replace L5 := Lib.hid (L5.out.below bU)
  replace BW := Below.more BW bU
  replace HT := Lib.hid (HB.out.below HT.out bU)
  have Ld := Lib.hid hld
  clear hld bU
  have b10 := Below.refl U10.heap.size U10
  go_wp2_with fail
  refine (kp_m2 _).mono ?_
  rintro e U11 ⟨⟨pr6, c6, rfl, hc6, hl6⟩, b⟩
  have bU := Below.more b10 b
  clear b
  replace L1 := Lib.hid (L1.out.below bU)
  replace Lb := Lib.hid (Lb.out.below bU)
  replace L2 := Lib.hid (L2.out.below bU)
  replace Lx := Lib.hid (Lx.out.below bU)
  replace L3 := Lib.hid (L3.out.below bU)
  replace Lc := Lib.hid (Lc.out.below bU)
  replace L4 := Lib.hid (L4.out.below bU)
  replace Ly := Lib.hid (Ly.out.below bU)
  replace L5 := Lib.hid (L5.out.below bU)
  replace Ld := Lib.hid (Ld.out.below bU)
  replace BW := Below.more BW bU
  replace HT := Lib.hid (HB.out.below HT.out bU)
  have L6 := Lib.hid hl6
  clear hl6 bU
  have b11 := Below.refl U11.heap.size U11
  go_wp2_with fail
  refine (kp_b2 HB.out _ _ hc6 _ (L6.out.below b11) (HB.out.below HT.out b11)).mono ?_
  rintro e w12 ⟨rfl, b⟩
  have b12 := Below.more b11 b
  clear b
  go_wp2_with fail
  refine (kp_m2 _).mono ?_
  rintro e U13 ⟨⟨pr7, c7, rfl, hc7, hl7⟩, b⟩
  have bU := Below.more b12 b
  clear b
  replace L1 := Lib.hid (L1.out.below bU)
  replace Lb := Lib.hid (Lb.out.below bU)
  replace L2 := Lib.hid (L2.out.below bU)
  replace Lx := Lib.hid (Lx.out.below bU)
  replace L3 := Lib.hid (L3.out.below bU)
  replace Lc := Lib.hid (Lc.out.below bU)
  replace L4 := Lib.hid (L4.out.below bU)
  replace Ly := Lib.hid (Ly.out.below bU)
  replace L5 := Lib.hid (L5.out.below bU)
  replace Ld := Lib.hid (Ld.out.below bU)
  replace L6 := Lib.hid (L6.out.below bU)
  replace BW := Below.more BW bU
  replace HT := Lib.hid (HB.out.below HT.out bU)
  have L7 := Lib.hid hl7
  clear hl7 bU
  have b13 := Below.refl U13.heap.size U13
  have L7b := Lib.hid (lns_first L7.out)
  have h71 : 1 ≤ c7 := Nat.le_trans (by decide) hc7
  have h7c : (1 : Int) ≤ (c7 : Int) := by omega
  go_wp2_with fail
  refine (kp_b4 HB.out _ _ h71 _ (L7b.out.below b13) (HB.out.below HT.out b13)).mono ?_
  rintro e w14 ⟨rfl, b⟩
  have b14 := Below.more b13 b
  clear b
  go_wp2_with fail
  refine (kp_f1 HB.out _ (HB.out.below HT.out b14)).mono ?_
  rintro e w15 ⟨rfl, b⟩
  have b15 := Below.more b14 b
  clear b
  go_wp2_with fail
  refine (kp_f2 HB.out _ (HB.out.below HT.out b15)).mono ?_
  rintro e w16 ⟨rfl, b⟩
  have b16 := Below.more b15 b
  clear b
  go_wp2_with fail
  refine (kp_b0 HB.out _ (HB.out.below HT.out b16)).mono ?_
  rintro e w17 ⟨rfl, b⟩
  have b17 := Below.more b16 b
  clear b
  go_wp2_with fail
  go_ret
  exact ⟨rfl, Below.more BW b17⟩
end Go.Proofs.YtamibckbebifkaaGreatDoor
