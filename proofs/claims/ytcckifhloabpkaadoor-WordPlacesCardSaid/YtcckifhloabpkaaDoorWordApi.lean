/- What the laws of layer 9 want of the program's word; constants; the fixed calls at the head of each statement. -/
import Derived.Test.YtcckifhloabpkaaDoorAllRefL4
namespace Go.Proofs.YtcckifhloabpkaaDoor
open Go.RowKit
set_option linter.unusedSimpArgs false
set_option linter.unusedVariables false
open Wd (Tk printT ktT lexAt lexD)
variable {G : World → Prop}
def GiveSt (w : World) (t : List UInt8) (e : Ending) (w' : World) : Prop := e = .returned (.string ⟨t.toArray⟩) ∧ Below w.heap.size w w'
/-- The program's word answers as the document's words; G: what it wants of the world. -/
structure WordC (G : World → Prop) : Prop where
  below : ∀ {w w' : World}, G w → Below w.heap.size w w' → G w'
  lex : ∀ (s : ByteArray) (w : World), s.size ≤ 10000 → G w → Calls Tryd.prog 9 #[.string s] w (GiveLex w (lexD s.data.toList))
  print : ∀ (p : Option Addr) (c : Nat) (ns : List (List UInt8)) (w : World), ns.length ≤ c → ns.length ≤ 10000 → (printT ns).length ≤ 140737488355328 → TkTx w p ns → G w → Calls Tryd.prog 12 #[.slice p ns.length c] w (GiveSt w (printT ns))
theorem lc0_12 : lexAt [] 1 13 = ([], none) := Wd.lex_nil _ _
theorem lc0_11 : lexAt [41] 1 12 = ([Tk.mk 2 [41] 1 12], none) := by
  have k : Wd.kl [41] = some (2, 1) := by decide +kernel
  rw [Wd.lex_tok _ _ (by decide) (by decide) k]
  show (_ :: (lexAt [] 1 13).1, (lexAt [] 1 13).2) = _
  rw [lc0_12]
  rfl
theorem lc0_9 : lexAt [112, 120, 41] 1 10 = ([Tk.mk 0 [112, 120] 1 10, Tk.mk 2 [41] 1 12], none) := by
  have k : Wd.kl [112, 120, 41] = some (0, 2) := by decide +kernel
  rw [Wd.lex_tok _ _ (by decide) (by decide) k]
  show (_ :: (lexAt [41] 1 12).1, (lexAt [41] 1 12).2) = _
  rw [lc0_11]
  rfl
theorem lc0_8 : lexAt [32, 112, 120, 41] 1 9 = ([Tk.mk 0 [112, 120] 1 10, Tk.mk 2 [41] 1 12], none) := (Wd.lex_blank _ _ _).trans lc0_9
theorem lc0_7 : lexAt [44, 32, 112, 120, 41] 1 8 = ([Tk.mk 2 [44] 1 8, Tk.mk 0 [112, 120] 1 10, Tk.mk 2 [41] 1 12], none) := by
  have k : Wd.kl [44, 32, 112, 120, 41] = some (2, 1) := by decide +kernel
  rw [Wd.lex_tok _ _ (by decide) (by decide) k]
  show (_ :: (lexAt [32, 112, 120, 41] 1 9).1, (lexAt [32, 112, 120, 41] 1 9).2) = _
  rw [lc0_8]
  rfl
theorem lc0_4 : lexAt [49, 46, 53, 44, 32, 112, 120, 41] 1 5 = ([Tk.mk 1 [49, 46, 53] 1 5, Tk.mk 2 [44] 1 8, Tk.mk 0 [112, 120] 1 10, Tk.mk 2 [41] 1 12], none) := by
  have k : Wd.kl [49, 46, 53, 44, 32, 112, 120, 41] = some (1, 3) := by decide +kernel
  rw [Wd.lex_tok _ _ (by decide) (by decide) k]
  show (_ :: (lexAt [44, 32, 112, 120, 41] 1 8).1, (lexAt [44, 32, 112, 120, 41] 1 8).2) = _
  rw [lc0_7]
  rfl
theorem lc0_3 : lexAt [40, 49, 46, 53, 44, 32, 112, 120, 41] 1 4 = ([Tk.mk 2 [40] 1 4, Tk.mk 1 [49, 46, 53] 1 5, Tk.mk 2 [44] 1 8, Tk.mk 0 [112, 120] 1 10, Tk.mk 2 [41] 1 12], none) := by
  have k : Wd.kl [40, 49, 46, 53, 44, 32, 112, 120, 41] = some (2, 1) := by decide +kernel
  rw [Wd.lex_tok _ _ (by decide) (by decide) k]
  show (_ :: (lexAt [49, 46, 53, 44, 32, 112, 120, 41] 1 5).1, (lexAt [49, 46, 53, 44, 32, 112, 120, 41] 1 5).2) = _
  rw [lc0_4]
  rfl
theorem lc0_0 : lexAt [109, 97, 120, 40, 49, 46, 53, 44, 32, 112, 120, 41] 1 1 = ([Tk.mk 0 [109, 97, 120] 1 1, Tk.mk 2 [40] 1 4, Tk.mk 1 [49, 46, 53] 1 5, Tk.mk 2 [44] 1 8, Tk.mk 0 [112, 120] 1 10, Tk.mk 2 [41] 1 12], none) := by
  have k : Wd.kl [109, 97, 120, 40, 49, 46, 53, 44, 32, 112, 120, 41] = some (0, 3) := by decide +kernel
  rw [Wd.lex_tok _ _ (by decide) (by decide) k]
  show (_ :: (lexAt [40, 49, 46, 53, 44, 32, 112, 120, 41] 1 4).1, (lexAt [40, 49, 46, 53, 44, 32, 112, 120, 41] 1 4).2) = _
  rw [lc0_3]
  rfl
theorem lc0_d : lexD [109, 97, 120, 40, 49, 46, 53, 44, 32, 112, 120, 41] = ([Tk.mk 0 [109, 97, 120] 1 1, Tk.mk 2 [40] 1 4, Tk.mk 1 [49, 46, 53] 1 5, Tk.mk 2 [44] 1 8, Tk.mk 0 [112, 120] 1 10, Tk.mk 2 [41] 1 12], 0, 0, 0) := by
  unfold lexD
  rw [if_neg (by decide), lc0_0]
theorem lc1_5 : lexAt [63] 2 4 = ([], some (2, 4)) := Wd.lex_bad _ _ (by decide) (by decide) (by decide +kernel)
theorem lc1_4 : lexAt [32, 63] 2 3 = ([], some (2, 4)) := (Wd.lex_blank _ _ _).trans lc1_5
theorem lc1_3 : lexAt [98, 32, 63] 2 2 = ([Tk.mk 0 [98] 2 2], some (2, 4)) := by
  have k : Wd.kl [98, 32, 63] = some (0, 1) := by decide +kernel
  rw [Wd.lex_tok _ _ (by decide) (by decide) k]
  show (_ :: (lexAt [32, 63] 2 3).1, (lexAt [32, 63] 2 3).2) = _
  rw [lc1_4]
  rfl
theorem lc1_2 : lexAt [32, 98, 32, 63] 2 1 = ([Tk.mk 0 [98] 2 2], some (2, 4)) := (Wd.lex_blank _ _ _).trans lc1_3
theorem lc1_1 : lexAt [10, 32, 98, 32, 63] 1 2 = ([Tk.mk 0 [98] 2 2], some (2, 4)) := (Wd.lex_line _ _ _).trans lc1_2
theorem lc1_0 : lexAt [97, 10, 32, 98, 32, 63] 1 1 = ([Tk.mk 0 [97] 1 1, Tk.mk 0 [98] 2 2], some (2, 4)) := by
  have k : Wd.kl [97, 10, 32, 98, 32, 63] = some (0, 1) := by decide +kernel
  rw [Wd.lex_tok _ _ (by decide) (by decide) k]
  show (_ :: (lexAt [10, 32, 98, 32, 63] 1 2).1, (lexAt [10, 32, 98, 32, 63] 1 2).2) = _
  rw [lc1_1]
  rfl
theorem lc1_d : lexD [97, 10, 32, 98, 32, 63] = ([], 90, 2, 4) := by
  unfold lexD
  rw [if_neg (by decide), lc1_0]
theorem lc2_1 : lexAt [46, 97] 1 2 = ([], some (1, 2)) := Wd.lex_bad _ _ (by decide) (by decide) (by decide +kernel)
theorem lc2_0 : lexAt [49, 46, 97] 1 1 = ([Tk.mk 1 [49] 1 1], some (1, 2)) := by
  have k : Wd.kl [49, 46, 97] = some (1, 1) := by decide +kernel
  rw [Wd.lex_tok _ _ (by decide) (by decide) k]
  show (_ :: (lexAt [46, 97] 1 2).1, (lexAt [46, 97] 1 2).2) = _
  rw [lc2_1]
  rfl
theorem lc2_d : lexD [49, 46, 97] = ([], 90, 1, 2) := by
  unfold lexD
  rw [if_neg (by decide), lc2_0]
theorem kl_0 (H : WordC G) (w : World) (hg : G w) : Calls Tryd.prog 9 #[.string ⟨#[109, 97, 120, 40, 49, 46, 53, 44, 32, 112, 120, 41]⟩] w fun e w' => (∃ p c, e = .returned (.tuple #[.slice p 6 c, .int .i64 0, .int .i64 0, .int .i64 0]) ∧ 6 ≤ c ∧ Toks w' p [Tk.mk 0 [109, 97, 120] 1 1, Tk.mk 2 [40] 1 4, Tk.mk 1 [49, 46, 53] 1 5, Tk.mk 2 [44] 1 8, Tk.mk 0 [112, 120] 1 10, Tk.mk 2 [41] 1 12]) ∧ Below w.heap.size w w' := by
  have h := H.lex ⟨#[109, 97, 120, 40, 49, 46, 53, 44, 32, 112, 120, 41]⟩ w (by decide) hg
  rw [show lexD ((⟨#[109, 97, 120, 40, 49, 46, 53, 44, 32, 112, 120, 41]⟩ : ByteArray).data.toList) = ([Tk.mk 0 [109, 97, 120] 1 1, Tk.mk 2 [40] 1 4, Tk.mk 1 [49, 46, 53] 1 5, Tk.mk 2 [44] 1 8, Tk.mk 0 [112, 120] 1 10, Tk.mk 2 [41] 1 12], 0, 0, 0) from lc0_d] at h
  exact h
theorem kl_1 (H : WordC G) (w : World) (hg : G w) : Calls Tryd.prog 9 #[.string ⟨#[97, 10, 32, 98, 32, 63]⟩] w fun e w' => (∃ p c, e = .returned (.tuple #[.slice p 0 c, .int .i64 90, .int .i64 2, .int .i64 4]) ∧ 0 ≤ c ∧ Toks w' p []) ∧ Below w.heap.size w w' := by
  have h := H.lex ⟨#[97, 10, 32, 98, 32, 63]⟩ w (by decide) hg
  rw [show lexD ((⟨#[97, 10, 32, 98, 32, 63]⟩ : ByteArray).data.toList) = ([], 90, 2, 4) from lc1_d] at h
  exact h
theorem kl_2 (H : WordC G) (w : World) (hg : G w) : Calls Tryd.prog 9 #[.string ⟨#[49, 46, 97]⟩] w fun e w' => (∃ p c, e = .returned (.tuple #[.slice p 0 c, .int .i64 90, .int .i64 1, .int .i64 2]) ∧ 0 ≤ c ∧ Toks w' p []) ∧ Below w.heap.size w w' := by
  have h := H.lex ⟨#[49, 46, 97]⟩ w (by decide) hg
  rw [show lexD ((⟨#[49, 46, 97]⟩ : ByteArray).data.toList) = ([], 90, 1, 2) from lc2_d] at h
  exact h
theorem kl_p (H : WordC G) (p : Option Addr) (c : Nat) (hc : 6 ≤ c) (w : World) (h : Toks w p [Tk.mk 0 [109, 97, 120] 1 1, Tk.mk 2 [40] 1 4, Tk.mk 1 [49, 46, 53] 1 5, Tk.mk 2 [44] 1 8, Tk.mk 0 [112, 120] 1 10, Tk.mk 2 [41] 1 12]) (hg : G w) : Calls Tryd.prog 12 #[.slice p 6 c] w (GiveSt w [109, 97, 120, 32, 40, 32, 49, 46, 53, 32, 44, 32, 112, 120, 32, 41]) := H.print p c [[109, 97, 120], [40], [49, 46, 53], [44], [112, 120], [41]] w hc (by decide) (by decide) (toks_tx h) hg
set_option maxRecDepth 100000 in
set_option maxHeartbeats 4000000 in
theorem fixed9_any (H : WordC G) (w : World) (hg : G w) : Calls Tryd.prog 8 #[] w (GiveB w true) := by
  have HB := Lib.hid H; have HT := Lib.hid hg; clear H hg
  go_enter Tryd.func8, Tryd.ntmps8
  go_wp2_with fail
  have b0 := Below.refl w.heap.size w
  refine (kl_0 HB.out _ HT.out).mono ?_
  rintro e w1 ⟨⟨p1, c1, rfl, hc1, l1⟩, b⟩
  have b1 := Below.more b0 b
  have L1 := Lib.hid l1
  clear l1 b
  go_wp2_with fail
  refine (kl_1 HB.out _ (HB.out.below HT.out b1)).mono ?_
  rintro e w2 ⟨⟨p2, c2, rfl, hc2, l2⟩, b⟩
  have b2 := Below.more b1 b
  have L2 := Lib.hid (L1.out.below b)
  clear l2 b L1
  go_wp2_with fail
  refine (kl_2 HB.out _ (HB.out.below HT.out b2)).mono ?_
  rintro e w3 ⟨⟨p3, c3, rfl, hc3, l3⟩, b⟩
  have b3 := Below.more b2 b
  have L3 := Lib.hid (L2.out.below b)
  clear l3 b L2
  obtain ⟨b, o, rfl, k0, k1, k2, k3⟩ := toks_rule L3.out (k := 4) rfl
  simp only [Nat.reduceMul] at k0 k1 k2 k3
  have b30 := Below.refl w3.heap.size w3
  go_wp2_with fail
  refine (kl_p HB.out _ _ hc1 _ (L3.out.below b30) (HB.out.below HT.out b3)).mono ?_
  rintro e w4 ⟨rfl, b'⟩
  have b4 := Below.more b3 b'
  clear b'
  go_wp2_with fail
  go_ret
  exact ⟨ret_bool (by first | rfl | simp), b4⟩
end Go.Proofs.YtcckifhloabpkaaDoor
