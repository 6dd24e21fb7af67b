/- The fixed calls at the head of each statement of layer 6. -/
import Derived.Test.YtemnimbedmkagaaGreatDoorBookApi
namespace Go.Proofs.YtemnimbedmkagaaGreatDoor
open Go.RowKit
set_option linter.unusedSimpArgs false
set_option linter.unusedVariables false
variable {G : World → Prop}
theorem kb_a1 (H : BookC G) (w : World) (hg : G w) : Calls Tryz.prog 9 #[.slice none 0 0, .agg #[.string ⟨#[97, 110, 110]⟩, .string ⟨#[120]⟩, .string ⟨#[51]⟩, .string ⟨#[49]⟩]] w
    fun e w' => (∃ p c, e = .returned (.tuple #[.slice p 1 c, .bool true]) ∧ 1 ≤ c ∧ Lns w' p [(([97, 110, 110], [120]), ([51], [49]))]) ∧ Below w.heap.size w w' := by
  have h := H.add none 0 ([] : List Ln) [97, 110, 110] [120] [51] [49] w (Nat.le_refl _) (by decide) (all_szk (by decide +kernel) (by decide)) (small_szk (by decide +kernel) (by decide)) (Lns.nil _ _) hg
  rw [show addB ([] : List Ln) (([97, 110, 110], [120]), ([51], [49])) = ([(([97, 110, 110], [120]), ([51], [49]))], true) from addB_c (g := ([48], [49])) (q := ([51], [49])) (by decide +kernel) (by decide +kernel) (addR_c (by decide +kernel)) (by decide +kernel)] at h
  exact h
theorem kb_a2 (H : BookC G) (p : Option Addr) (c : Nat) (hc : 1 ≤ c) (w : World) (h : Lns w p [(([97, 110, 110], [120]), ([51], [49]))]) (hg : G w) : Calls Tryz.prog 9 #[.slice p 1 c, .agg #[.string ⟨#[97, 110, 110]⟩, .string ⟨#[120]⟩, .string ⟨#[45, 51]⟩, .string ⟨#[49]⟩]] w
    fun e w' => (∃ p c, e = .returned (.tuple #[.slice p 0 c, .bool true]) ∧ 0 ≤ c ∧ Lns w' p []) ∧ Below w.heap.size w w' := by
  have h := H.add p c ([(([97, 110, 110], [120]), ([51], [49]))] : List Ln) [97, 110, 110] [120] [45, 51] [49] w hc (by decide) (all_szk (by decide +kernel) (by decide)) (small_szk (by decide +kernel) (by decide)) h hg
  rw [show addB ([(([97, 110, 110], [120]), ([51], [49]))] : List Ln) (([97, 110, 110], [120]), ([45, 51], [49])) = ([], true) from addB_c (g := ([51], [49])) (q := ([48], [49])) (by decide +kernel) (by decide +kernel) (addR_c (by decide +kernel)) (by decide +kernel)] at h
  exact h
theorem kb_a3 (H : BookC G) (p : Option Addr) (c : Nat) (hc : 1 ≤ c) (w : World) (h : Lns w p [(([97, 110, 110], [120]), ([51], [49]))]) (hg : G w) : Calls Tryz.prog 9 #[.slice p 1 c, .agg #[.string ⟨#[33, 105, 115, 115, 117, 101, 114]⟩, .string ⟨#[120]⟩, .string ⟨#[45, 51]⟩, .string ⟨#[49]⟩]] w
    fun e w' => (∃ p c, e = .returned (.tuple #[.slice p 2 c, .bool true]) ∧ 2 ≤ c ∧ Lns w' p [(([33, 105, 115, 115, 117, 101, 114], [120]), ([45, 51], [49])), (([97, 110, 110], [120]), ([51], [49]))]) ∧ Below w.heap.size w w' := by
  have h := H.add p c ([(([97, 110, 110], [120]), ([51], [49]))] : List Ln) [33, 105, 115, 115, 117, 101, 114] [120] [45, 51] [49] w hc (by decide) (all_szk (by decide +kernel) (by decide)) (small_szk (by decide +kernel) (by decide)) h hg
  rw [show addB ([(([97, 110, 110], [120]), ([51], [49]))] : List Ln) (([33, 105, 115, 115, 117, 101, 114], [120]), ([45, 51], [49])) = ([(([33, 105, 115, 115, 117, 101, 114], [120]), ([45, 51], [49])), (([97, 110, 110], [120]), ([51], [49]))], true) from addB_c (g := ([48], [49])) (q := ([45, 51], [49])) (by decide +kernel) (by decide +kernel) (addR_c (by decide +kernel)) (by decide +kernel)] at h
  exact h
theorem kb_a4 (H : BookC G) (p : Option Addr) (c : Nat) (hc : 1 ≤ c) (w : World) (h : Lns w p [(([97, 110, 110], [120]), ([51], [49]))]) (hg : G w) : Calls Tryz.prog 9 #[.slice p 1 c, .agg #[.string ⟨#[97, 32, 98]⟩, .string ⟨#[120]⟩, .string ⟨#[49]⟩, .string ⟨#[49]⟩]] w
    fun e w' => (∃ p c, e = .returned (.tuple #[.slice p 0 c, .bool false]) ∧ 0 ≤ c ∧ Lns w' p []) ∧ Below w.heap.size w w' := by
  have h := H.add p c ([(([97, 110, 110], [120]), ([51], [49]))] : List Ln) [97, 32, 98] [120] [49] [49] w hc (by decide) (all_szk (by decide +kernel) (by decide)) (small_szk (by decide +kernel) (by decide)) h hg
  rw [show addB ([(([97, 110, 110], [120]), ([51], [49]))] : List Ln) (([97, 32, 98], [120]), ([49], [49])) = ([], false) from addB_no (by decide +kernel)] at h
  exact h
theorem kb_g1 (H : BookC G) (p : Option Addr) (c : Nat) (hc : 1 ≤ c) (w : World) (h : Lns w p [(([97, 110, 110], [120]), ([51], [49]))]) (hg : G w) : Calls Tryz.prog 16 #[.slice p 1 c, .string ⟨#[97, 110, 110]⟩, .string ⟨#[120]⟩] w (GiveR w ([51], [49])) := by
  have h := H.get p c ([(([97, 110, 110], [120]), ([51], [49]))] : List Ln) [97, 110, 110] [120] w hc (by decide) (all_szk (by decide +kernel) (by decide)) (by decide) (by decide) h hg
  rw [show getB ([(([97, 110, 110], [120]), ([51], [49]))] : List Ln) ([97, 110, 110], [120]) = ([51], [49]) from (by decide +kernel)] at h
  exact h
theorem kb_g2 (H : BookC G) (p : Option Addr) (c : Nat) (hc : 1 ≤ c) (w : World) (h : Lns w p [(([97, 110, 110], [120]), ([51], [49]))]) (hg : G w) : Calls Tryz.prog 16 #[.slice p 1 c, .string ⟨#[98, 111, 98]⟩, .string ⟨#[120]⟩] w (GiveR w ([48], [49])) := by
  have h := H.get p c ([(([97, 110, 110], [120]), ([51], [49]))] : List Ln) [98, 111, 98] [120] w hc (by decide) (all_szk (by decide +kernel) (by decide)) (by decide) (by decide) h hg
  rw [show getB ([(([97, 110, 110], [120]), ([51], [49]))] : List Ln) ([98, 111, 98], [120]) = ([48], [49]) from (by decide +kernel)] at h
  exact h
theorem tot_c : totB ([(([33, 105, 115, 115, 117, 101, 114], [120]), ([45, 51], [49])), (([97, 110, 110], [120]), ([51], [49]))] : List Ln) [120] = ([48], [49]) := by
  unfold totB
  rw [show mayB ([(([33, 105, 115, 115, 117, 101, 114], [120]), ([45, 51], [49])), (([97, 110, 110], [120]), ([51], [49]))] : List Ln) = true from (by decide +kernel), show holdB ([(([33, 105, 115, 115, 117, 101, 114], [120]), ([45, 51], [49])), (([97, 110, 110], [120]), ([51], [49]))] : List Ln) [120] = [(([33, 105, 115, 115, 117, 101, 114], [120]), ([45, 51], [49])), (([97, 110, 110], [120]), ([51], [49]))] from (by decide +kernel)]
  show addR (addR ([48], [49]) ([45, 51], [49])) ([51], [49]) = _
  rw [addR_c (p := ([48], [49])) (q := ([45, 51], [49])) (r := ([45, 51], [49])) (by decide +kernel), addR_c (r := ([48], [49])) (by decide +kernel)]
theorem kb_t1 (H : BookC G) (p : Option Addr) (c : Nat) (hc : 2 ≤ c) (w : World) (h : Lns w p [(([33, 105, 115, 115, 117, 101, 114], [120]), ([45, 51], [49])), (([97, 110, 110], [120]), ([51], [49]))]) (hg : G w) : Calls Tryz.prog 18 #[.slice p 2 c, .string ⟨#[120]⟩] w (GiveR w ([48], [49])) := by
  have h := H.total p c ([(([33, 105, 115, 115, 117, 101, 114], [120]), ([45, 51], [49])), (([97, 110, 110], [120]), ([51], [49]))] : List Ln) [120] 100 w hc (by decide) (all_szk (by decide +kernel) (by decide)) (by decide) (by decide) h hg
  rw [tot_c] at h
  exact h
theorem kb_h1 (H : BookC G) (p : Option Addr) (c : Nat) (hc : 2 ≤ c) (w : World) (h : Lns w p [(([33, 105, 115, 115, 117, 101, 114], [120]), ([45, 51], [49])), (([97, 110, 110], [120]), ([51], [49]))]) (hg : G w) : Calls Tryz.prog 20 #[.slice p 2 c, .string ⟨#[120]⟩] w
    fun e w' => (∃ p c, e = .returned (.slice p 2 c) ∧ 2 ≤ c ∧ Lns w' p [(([33, 105, 115, 115, 117, 101, 114], [120]), ([45, 51], [49])), (([97, 110, 110], [120]), ([51], [49]))]) ∧ Below w.heap.size w w' := by
  have h := H.holders p c ([(([33, 105, 115, 115, 117, 101, 114], [120]), ([45, 51], [49])), (([97, 110, 110], [120]), ([51], [49]))] : List Ln) [120] w hc (by decide) (all_szk (by decide +kernel) (by decide)) (by decide) h hg
  rw [show holdB ([(([33, 105, 115, 115, 117, 101, 114], [120]), ([45, 51], [49])), (([97, 110, 110], [120]), ([51], [49]))] : List Ln) [120] = [(([33, 105, 115, 115, 117, 101, 114], [120]), ([45, 51], [49])), (([97, 110, 110], [120]), ([51], [49]))] from (by decide +kernel)] at h
  exact h
theorem kb_m1 (H : BookC G) (p : Option Addr) (c : Nat) (hc : 2 ≤ c) (w : World) (h : Lns w p [(([33, 105, 115, 115, 117, 101, 114], [120]), ([45, 51], [49])), (([97, 110, 110], [120]), ([51], [49]))]) (hg : G w) : Calls Tryz.prog 12 #[.slice p 2 c] w (GiveB w true) := by
  have h := H.may p c ([(([33, 105, 115, 115, 117, 101, 114], [120]), ([45, 51], [49])), (([97, 110, 110], [120]), ([51], [49]))] : List Ln) w hc (by decide) (all_szk (by decide +kernel) (by decide)) h hg
  rw [show mayB ([(([33, 105, 115, 115, 117, 101, 114], [120]), ([45, 51], [49])), (([97, 110, 110], [120]), ([51], [49]))] : List Ln) = true from (by decide +kernel)] at h
  exact h
theorem kb_m2 (H : BookC G) (p : Option Addr) (c : Nat) (hc : 1 ≤ c) (w : World) (h : Lns w p [(([], []), ([], []))]) (hg : G w) : Calls Tryz.prog 12 #[.slice p 1 c] w (GiveB w false) := by
  have h := H.may p c ([(([], []), ([], []))] : List Ln) w hc (by decide) (all_szk (by decide +kernel) (by decide)) h hg
  rw [show mayB ([(([], []), ([], []))] : List Ln) = false from (by decide +kernel)] at h
  exact h
theorem kb_n1 (H : BookC G) (w : World) (hg : G w) : Calls Tryz.prog 14 #[.string ⟨#[97, 49]⟩] w (GiveB w true) := by
  have h := H.name ⟨#[97, 49]⟩ w (by decide) hg
  rw [show isName (⟨#[97, 49]⟩ : ByteArray).data.toList = true from (by decide +kernel)] at h
  exact h
theorem kb_n2 (H : BookC G) (w : World) (hg : G w) : Calls Tryz.prog 14 #[.string ⟨#[]⟩] w (GiveB w false) := by
  have h := H.name ⟨#[]⟩ w (by decide) hg
  rw [show isName (⟨#[]⟩ : ByteArray).data.toList = false from (by decide +kernel)] at h
  exact h
theorem kb_n3 (H : BookC G) (w : World) (hg : G w) : Calls Tryz.prog 14 #[.string ⟨#[97, 33]⟩] w (GiveB w false) := by
  have h := H.name ⟨#[97, 33]⟩ w (by decide) hg
  rw [show isName (⟨#[97, 33]⟩ : ByteArray).data.toList = false from (by decide +kernel)] at h
  exact h
theorem kb_o3 (w : World) : Calls Tryz.prog 25 #[.int .i64 3] w (GiveR w ([51], [49])) := by
  have h := rqof_any (3) w (by decide) (by decide)
  rw [show wd (3) = [51] from wd_const (by decide) (by decide)] at h
  exact h
theorem kb_om3 (w : World) : Calls Tryz.prog 25 #[.int .i64 (-3)] w (GiveR w ([45, 51], [49])) := by
  have h := rqof_any (-3) w (by decide) (by decide)
  rw [show wd (-3) = [45, 51] from wd_const (by decide) (by decide)] at h
  exact h
theorem kb_o1 (w : World) : Calls Tryz.prog 25 #[.int .i64 1] w (GiveR w ([49], [49])) := by
  have h := rqof_any (1) w (by decide) (by decide)
  rw [show wd (1) = [49] from wd_const (by decide) (by decide)] at h
  exact h
theorem kb_o0 (w : World) : Calls Tryz.prog 25 #[.int .i64 0] w (GiveR w ([48], [49])) := by
  have h := rqof_any (0) w (by decide) (by decide)
  rw [show wd (0) = [48] from wd_const (by decide) (by decide)] at h
  exact h
set_option maxRecDepth 100000 in
set_option maxHeartbeats 4000000 in
theorem fixed6_any (H : BookC G) (w : World) (hg : G w) :
    Calls Tryz.prog 8 #[] w (GiveB w true) := by
  have HB := Lib.hid H; have HT := Lib.hid hg; clear H hg
  go_enter Tryz.func8, Tryz.ntmps8
  go_wp2_with fail
  have BW := Below.refl w.heap.size w
  have b0 : Below w.heap.size w w := Below.refl _ _
  refine (kb_o3 _).mono ?_
  rintro e w1 ⟨rfl, b⟩
  have b1 := Below.more b0 b
  clear b
  have ba := fun x => Below.alloc b1 (Below.size b1) x
  go_wp2_with fail
  obtain ⟨U2, hU, bU, s2, rl0, rl1, rl2, rl3⟩ := lay4 b1 (.string ⟨#[97, 110, 110]⟩) (.string ⟨#[120]⟩) (.string ⟨#[51]⟩) (.string ⟨#[49]⟩) 27
  rw [hU]; clear hU
  clear s2
  replace BW := Below.more BW bU
  replace HT := Lib.hid (HB.out.below HT.out bU)
  clear bU
  have b2 := Below.refl U2.heap.size U2
  clear ba
  refine (kb_a1 HB.out _ (HB.out.below HT.out b2)).mono ?_
  rintro e U3 ⟨⟨p1, c1, rfl, hc1, hl1⟩, b⟩
  have bU := Below.more b2 b
  clear b
  replace rl0 := fun v (h : Below U3.heap.size U3 v) => rl0 v (Below.more bU h)
  replace rl1 := fun v (h : Below U3.heap.size U3 v) => rl1 v (Below.more bU h)
  replace rl2 := fun v (h : Below U3.heap.size U3 v) => rl2 v (Below.more bU h)
  replace rl3 := fun v (h : Below U3.heap.size U3 v) => rl3 v (Below.more bU h)
  replace BW := Below.more BW bU
  replace HT := Lib.hid (HB.out.below HT.out bU)
  have L1 := Lib.hid hl1
  clear hl1 bU
  have b3 := Below.refl U3.heap.size U3
  go_wp2_with fail
  refine (kb_om3 _).mono ?_
  rintro e w4 ⟨rfl, b⟩
  have b4 := Below.more b3 b
  clear b
  go_wp2_with fail
  refine (kb_a2 HB.out _ _ hc1 _ (L1.out.below b4) (HB.out.below HT.out b4)).mono ?_
  rintro e U5 ⟨⟨p2, c2, rfl, hc2, hl2⟩, b⟩
  have bU := Below.more b4 b
  clear b
  replace rl0 := fun v (h : Below U5.heap.size U5 v) => rl0 v (Below.more bU h)
  replace rl1 := fun v (h : Below U5.heap.size U5 v) => rl1 v (Below.more bU h)
  replace rl2 := fun v (h : Below U5.heap.size U5 v) => rl2 v (Below.more bU h)
  replace rl3 := fun v (h : Below U5.heap.size U5 v) => rl3 v (Below.more bU h)
  replace L1 := Lib.hid (L1.out.below bU)
  replace BW := Below.more BW bU
  replace HT := Lib.hid (HB.out.below HT.out bU)
  have L2 := Lib.hid hl2
  clear hl2 bU
  have b5 := Below.refl U5.heap.size U5
  go_wp2_with fail
  refine (kb_om3 _).mono ?_
  rintro e w6 ⟨rfl, b⟩
  have b6 := Below.more b5 b
  clear b
  go_wp2_with fail
  refine (kb_a3 HB.out _ _ hc1 _ (L1.out.below b6) (HB.out.below HT.out b6)).mono ?_
  rintro e U7 ⟨⟨p3, c3, rfl, hc3, hl3⟩, b⟩
  have bU := Below.more b6 b
  clear b
  replace rl0 := fun v (h : Below U7.heap.size U7 v) => rl0 v (Below.more bU h)
  replace rl1 := fun v (h : Below U7.heap.size U7 v) => rl1 v (Below.more bU h)
  replace rl2 := fun v (h : Below U7.heap.size U7 v) => rl2 v (Below.more bU h)
  replace rl3 := fun v (h : Below U7.heap.size U7 v) => rl3 v (Below.more bU h)
  replace L1 := Lib.hid (L1.out.below bU)
  replace L2 := Lib.hid (L2.out.below bU)
  replace BW := Below.more BW bU
  replace HT := Lib.hid (HB.out.below HT.out bU)
  have L3 := Lib.hid hl3
  clear hl3 bU
  have b7 := Below.refl U7.heap.size U7
  go_wp2_with fail
  refine (kb_o1 _).mono ?_
  rintro e w8 ⟨rfl, b⟩
  have b8 := Below.more b7 b
  clear b
  go_wp2_with fail
  refine (kb_a4 HB.out _ _ hc1 _ (L1.out.below b8) (HB.out.below HT.out b8)).mono ?_
  rintro e U9 ⟨⟨p4, c4, rfl, hc4, hl4⟩, b⟩
  have bU := Below.more b8 b
  clear b
  replace rl0 := fun v (h : Below U9.heap.size U9 v) => rl0 v (Below.more bU h)
  replace rl1 := fun v (h : Below U9.heap.size U9 v) => rl1 v (Below.more bU h)
  replace rl2 := fun v (h : Below U9.heap.size U9 v) => rl2 v (Below.more bU h)
  replace rl3 := fun v (h : Below U9.heap.size U9 v) => rl3 v (Below.more bU h)
  replace L1 := Lib.hid (L1.out.below bU)
  replace L2 := Lib.hid (L2.out.below bU)
  replace L3 := Lib.hid (L3.out.below bU)
  replace BW := Below.more BW bU
  replace HT := Lib.hid (HB.out.below HT.out bU)
  have L4 := Lib.hid hl4
  clear hl4 bU
  have b9 := Below.refl U9.heap.size U9
  obtain ⟨bx, ox, rfl, d0, d1, d2, d3⟩ := L3.out.rule (k := 0) rfl
  simp only [Nat.zero_mul, Nat.add_zero] at d0 d1 d2 d3
  go_wp2_with fail
  refine (kb_g1 HB.out _ _ hc1 _ (L1.out.below b9) (HB.out.below HT.out b9)).mono ?_
  rintro e w10 ⟨rfl, b⟩
  have b10 := Below.more b9 b
  clear b
  go_wp2_with fail
  refine (kb_o3 _).mono ?_
  rintro e w11 ⟨rfl, b⟩
  have b11 := Below.more b10 b
  clear b
  go_wp2_with fail
  refine (kb_g2 HB.out _ _ hc1 _ (L1.out.below b11) (HB.out.below HT.out b11)).mono ?_
  rintro e w12 ⟨rfl, b⟩
  have b12 := Below.more b11 b
  clear b
  go_wp2_with fail
  refine (kb_o0 _).mono ?_
  rintro e w13 ⟨rfl, b⟩
  have b13 := Below.more b12 b
  clear b
  go_wp2_with fail
  refine (kb_t1 HB.out _ _ hc3 _ (L3.out.below b13) (HB.out.below HT.out b13)).mono ?_
  rintro e w14 ⟨rfl, b⟩
  have b14 := Below.more b13 b
  clear b
  go_wp2_with fail
  refine (kb_o0 _).mono ?_
  rintro e w15 ⟨rfl, b⟩
  have b15 := Below.more b14 b
  clear b
  go_wp2_with fail
  refine (kb_h1 HB.out _ _ hc3 _ (L3.out.below b15) (HB.out.below HT.out b15)).mono ?_
  rintro e U16 ⟨⟨p5, c5, rfl, hc5, hl5⟩, b⟩
  have bU := Below.more b15 b
  clear b
  replace rl0 := fun v (h : Below U16.heap.size U16 v) => rl0 v (Below.more bU h)
  replace rl1 := fun v (h : Below U16.heap.size U16 v) => rl1 v (Below.more bU h)
  replace rl2 := fun v (h : Below U16.heap.size U16 v) => rl2 v (Below.more bU h)
  replace rl3 := fun v (h : Below U16.heap.size U16 v) => rl3 v (Below.more bU h)
  replace d0 := fun v (h : Below U16.heap.size U16 v) => d0 v (Below.more bU h)
  replace d1 := fun v (h : Below U16.heap.size U16 v) => d1 v (Below.more bU h)
  replace d2 := fun v (h : Below U16.heap.size U16 v) => d2 v (Below.more bU h)
  replace d3 := fun v (h : Below U16.heap.size U16 v) => d3 v (Below.more bU h)
  replace L1 := Lib.hid (L1.out.below bU)
  replace L2 := Lib.hid (L2.out.below bU)
  replace L3 := Lib.hid (L3.out.below bU)
  replace L4 := Lib.hid (L4.out.below bU)
  replace BW := Below.more BW bU
  replace HT := Lib.hid (HB.out.below HT.out bU)
  have L5 := Lib.hid hl5
  clear hl5 bU
  have b16 := Below.refl U16.heap.size U16
  go_wp2_with fail
  refine (kb_m1 HB.out _ _ hc3 _ (L3.out.below b16) (HB.out.below HT.out b16)).mono ?_
  rintro e w17 ⟨rfl, b⟩
  have b17 := Below.more b16 b
  clear b
  have ba := fun x => Below.alloc b17 (Below.size b17) x
  go_wp2_with fail
  have hln := lns_one w17 [] [] [] [] 27
  refine (kb_m2 HB.out _ 1 (Nat.le_refl _) _ hln (HB.out.below HT.out (ba _))).mono ?_
  rintro e wz ⟨rfl, b⟩
  have bz := Below.more (ba _) b
  clear b ba hln
  go_wp2_with fail
  refine (kb_n1 HB.out _ (HB.out.below HT.out bz)).mono ?_
  rintro e w18 ⟨rfl, b⟩
  have b18 := Below.more bz b
  clear b
  go_wp2_with fail
  refine (kb_n2 HB.out _ (HB.out.below HT.out b18)).mono ?_
  rintro e w19 ⟨rfl, b⟩
  have b19 := Below.more b18 b
  clear b
  go_wp2_with fail
  refine (kb_n3 HB.out _ (HB.out.below HT.out b19)).mono ?_
  rintro e w20 ⟨rfl, b⟩
  have b20 := Below.more b19 b
  clear b
  go_wp2_with fail
  go_ret
  exact ⟨ret_bool (by first | rfl | simp [*]), Below.more BW b20⟩
end Go.Proofs.YtemnimbedmkagaaGreatDoor
