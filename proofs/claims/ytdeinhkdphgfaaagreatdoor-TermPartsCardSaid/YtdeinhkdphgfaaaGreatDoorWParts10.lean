/- TermParts: a term is what its last node takes, joined by it; joined, terms that may be give one that takes just them, and is one deeper than the deepest. -/
import Derived.Test.YtdeinhkdphgfaaaGreatDoorFixT
import Derived.Test.YtdeinhkdphgfaaaGreatDoorRowsMM
namespace Go.Proofs.YtdeinhkdphgfaaaGreatDoor
open Go.RowKit
set_option linter.unusedSimpArgs false
set_option linter.unusedVariables false
open Tm (Nd Tr arN arI formB joinT printT checkT depthT argsT plainN)
variable {G : World → Prop}
set_option maxRecDepth 100000 in
set_option maxHeartbeats 4000000 in
theorem parts10_0 (H : TermC G) (p : Option Addr) (e : Nat) (a : List Nd) (q : Option Addr) (f : Nat) (b : List Nd) (r : Option Addr) (g : Nat) (c : List Nd) (w : World) (hca : a.length ≤ e) (hna : a.length ≤ 4611686018427387904) (HRa : Hid (∀ x ∈ a, RgN x)) (hTa : Nds w p a) (hcb : b.length ≤ f) (hnb : b.length ≤ 4611686018427387904) (HRb : Hid (∀ x ∈ b, RgN x)) (hTb : Nds w q b) (hcc : c.length ≤ g) (hnc : c.length ≤ 4611686018427387904) (HRc : Hid (∀ x ∈ c, RgN x)) (hTc : Nds w r c) (hg : G w) (hsa : smallT a = false) : Calls Tryz.prog 4 #[.slice p a.length e, .slice q b.length f, .slice r c.length g] w (GiveB w true) := by
 have HB := Lib.hid H; have HG := Lib.hid hg; clear H hg
 have CSa : Hid (∀ V, Nds V p a → Calls Tryz.prog 8 #[.slice p a.length e] V (GiveB V false)) := Lib.hid fun V h => by
  have k := rtsmall_any p e a V hna h
  rw [hsa] at k
  exact k
 have LTa := Lib.hid hTa; have LTb := Lib.hid hTb; have LTc := Lib.hid hTc
 clear hTa hTb hTc hsa
 go_enter Tryz.func4, Tryz.ntmps4
 have b0 := Below.refl w.heap.size w
 go_wp2_with fail
 refine (fixed10_any HB.out _ HG.out).mono ?_
 rintro e w1 ⟨rfl, b⟩
 have b1 := Below.more b0 b
 replace LTa := Lib.hid (LTa.out.below b)
 replace LTb := Lib.hid (LTb.out.below b)
 replace LTc := Lib.hid (LTc.out.below b)
 replace HG := Lib.hid (HB.out.below HG.out b)
 clear b
 go_wp2_with fail
 refine (CSa.out _ LTa.out).mono ?_
 rintro e w2 ⟨rfl, b⟩
 have b2 := Below.more b1 b
 replace LTa := Lib.hid (LTa.out.below b)
 replace LTb := Lib.hid (LTb.out.below b)
 replace LTc := Lib.hid (LTc.out.below b)
 replace HG := Lib.hid (HB.out.below HG.out b)
 clear b
 go_wp2_with fail
 refine (fixed10_any HB.out _ HG.out).mono ?_
 rintro e w3 ⟨rfl, b⟩
 have b3 := Below.more b2 b
 replace LTa := Lib.hid (LTa.out.below b)
 replace LTb := Lib.hid (LTb.out.below b)
 replace LTc := Lib.hid (LTc.out.below b)
 replace HG := Lib.hid (HB.out.below HG.out b)
 clear b
 go_wp2_with fail
 go_ret
 exact ⟨ret_bool (by first | rfl | simp), b3⟩
set_option maxRecDepth 100000 in
set_option maxHeartbeats 4000000 in
theorem parts10_1 (H : TermC G) (p : Option Addr) (e : Nat) (a : List Nd) (q : Option Addr) (f : Nat) (b : List Nd) (r : Option Addr) (g : Nat) (c : List Nd) (w : World) (hca : a.length ≤ e) (hna : a.length ≤ 4611686018427387904) (HRa : Hid (∀ x ∈ a, RgN x)) (hTa : Nds w p a) (hcb : b.length ≤ f) (hnb : b.length ≤ 4611686018427387904) (HRb : Hid (∀ x ∈ b, RgN x)) (hTb : Nds w q b) (hcc : c.length ≤ g) (hnc : c.length ≤ 4611686018427387904) (HRc : Hid (∀ x ∈ c, RgN x)) (hTc : Nds w r c) (hg : G w) (hsa : smallT a = true) (hsb : smallT b = false) : Calls Tryz.prog 4 #[.slice p a.length e, .slice q b.length f, .slice r c.length g] w (GiveB w true) := by
 have HB := Lib.hid H; have HG := Lib.hid hg; clear H hg
 have CSa : Hid (∀ V, Nds V p a → Calls Tryz.prog 8 #[.slice p a.length e] V (GiveB V true)) := Lib.hid fun V h => by
  have k := rtsmall_any p e a V hna h
  rw [hsa] at k
  exact k
 have CSb : Hid (∀ V, Nds V q b → Calls Tryz.prog 8 #[.slice q b.length f] V (GiveB V false)) := Lib.hid fun V h => by
  have k := rtsmall_any q f b V hnb h
  rw [hsb] at k
  exact k
 have LTa := Lib.hid hTa; have LTb := Lib.hid hTb; have LTc := Lib.hid hTc
 clear hTa hTb hTc hsa hsb
 go_enter Tryz.func4, Tryz.ntmps4
 have b0 := Below.refl w.heap.size w
 go_wp2_with fail
 refine (fixed10_any HB.out _ HG.out).mono ?_
 rintro e w1 ⟨rfl, b⟩
 have b1 := Below.more b0 b
 replace LTa := Lib.hid (LTa.out.below b)
 replace LTb := Lib.hid (LTb.out.below b)
 replace LTc := Lib.hid (LTc.out.below b)
 replace HG := Lib.hid (HB.out.below HG.out b)
 clear b
 go_wp2_with fail
 refine (CSa.out _ LTa.out).mono ?_
 rintro e w2 ⟨rfl, b⟩
 have b2 := Below.more b1 b
 replace LTa := Lib.hid (LTa.out.below b)
 replace LTb := Lib.hid (LTb.out.below b)
 replace LTc := Lib.hid (LTc.out.below b)
 replace HG := Lib.hid (HB.out.below HG.out b)
 clear b
 go_wp2_with fail
 refine (CSb.out _ LTb.out).mono ?_
 rintro e w3 ⟨rfl, b⟩
 have b3 := Below.more b2 b
 replace LTa := Lib.hid (LTa.out.below b)
 replace LTb := Lib.hid (LTb.out.below b)
 replace LTc := Lib.hid (LTc.out.below b)
 replace HG := Lib.hid (HB.out.below HG.out b)
 clear b
 go_wp2_with fail
 refine (fixed10_any HB.out _ HG.out).mono ?_
 rintro e w4 ⟨rfl, b⟩
 have b4 := Below.more b3 b
 replace LTa := Lib.hid (LTa.out.below b)
 replace LTb := Lib.hid (LTb.out.below b)
 replace LTc := Lib.hid (LTc.out.below b)
 replace HG := Lib.hid (HB.out.below HG.out b)
 clear b
 go_wp2_with fail
 go_ret
 exact ⟨ret_bool (by first | rfl | simp), b4⟩
set_option maxRecDepth 100000 in
set_option maxHeartbeats 4000000 in
theorem parts10_2 (H : TermC G) (p : Option Addr) (e : Nat) (a : List Nd) (q : Option Addr) (f : Nat) (b : List Nd) (r : Option Addr) (g : Nat) (c : List Nd) (w : World) (hca : a.length ≤ e) (hna : a.length ≤ 4611686018427387904) (HRa : Hid (∀ x ∈ a, RgN x)) (hTa : Nds w p a) (hcb : b.length ≤ f) (hnb : b.length ≤ 4611686018427387904) (HRb : Hid (∀ x ∈ b, RgN x)) (hTb : Nds w q b) (hcc : c.length ≤ g) (hnc : c.length ≤ 4611686018427387904) (HRc : Hid (∀ x ∈ c, RgN x)) (hTc : Nds w r c) (hg : G w) (hsa : smallT a = true) (hsb : smallT b = true) (hsc : smallT c = false) : Calls Tryz.prog 4 #[.slice p a.length e, .slice q b.length f, .slice r c.length g] w (GiveB w true) := by
 have HB := Lib.hid H; have HG := Lib.hid hg; clear H hg
 have CSa : Hid (∀ V, Nds V p a → Calls Tryz.prog 8 #[.slice p a.length e] V (GiveB V true)) := Lib.hid fun V h => by
  have k := rtsmall_any p e a V hna h
  rw [hsa] at k
  exact k
 have CSb : Hid (∀ V, Nds V q b → Calls Tryz.prog 8 #[.slice q b.length f] V (GiveB V true)) := Lib.hid fun V h => by
  have k := rtsmall_any q f b V hnb h
  rw [hsb] at k
  exact k
 have CSc : Hid (∀ V, Nds V r c → Calls Tryz.prog 8 #[.slice r c.length g] V (GiveB V false)) := Lib.hid fun V h => by
  have k := rtsmall_any r g c V hnc h
  rw [hsc] at k
  exact k
 have LTa := Lib.hid hTa; have LTb := Lib.hid hTb; have LTc := Lib.hid hTc
 clear hTa hTb hTc hsa hsb hsc
 go_enter Tryz.func4, Tryz.ntmps4
 have b0 := Below.refl w.heap.size w
 go_wp2_with fail
 refine (fixed10_any HB.out _ HG.out).mono ?_
 rintro e w1 ⟨rfl, b⟩
 have b1 := Below.more b0 b
 replace LTa := Lib.hid (LTa.out.below b)
 replace LTb := Lib.hid (LTb.out.below b)
 replace LTc := Lib.hid (LTc.out.below b)
 replace HG := Lib.hid (HB.out.below HG.out b)
 clear b
 go_wp2_with fail
 refine (CSa.out _ LTa.out).mono ?_
 rintro e w2 ⟨rfl, b⟩
 have b2 := Below.more b1 b
 replace LTa := Lib.hid (LTa.out.below b)
 replace LTb := Lib.hid (LTb.out.below b)
 replace LTc := Lib.hid (LTc.out.below b)
 replace HG := Lib.hid (HB.out.below HG.out b)
 clear b
 go_wp2_with fail
 refine (CSb.out _ LTb.out).mono ?_
 rintro e w3 ⟨rfl, b⟩
 have b3 := Below.more b2 b
 replace LTa := Lib.hid (LTa.out.below b)
 replace LTb := Lib.hid (LTb.out.below b)
 replace LTc := Lib.hid (LTc.out.below b)
 replace HG := Lib.hid (HB.out.below HG.out b)
 clear b
 go_wp2_with fail
 refine (CSc.out _ LTc.out).mono ?_
 rintro e w4 ⟨rfl, b⟩
 have b4 := Below.more b3 b
 replace LTa := Lib.hid (LTa.out.below b)
 replace LTb := Lib.hid (LTb.out.below b)
 replace LTc := Lib.hid (LTc.out.below b)
 replace HG := Lib.hid (HB.out.below HG.out b)
 clear b
 go_wp2_with fail
 refine (fixed10_any HB.out _ HG.out).mono ?_
 rintro e w5 ⟨rfl, b⟩
 have b5 := Below.more b4 b
 replace LTa := Lib.hid (LTa.out.below b)
 replace LTb := Lib.hid (LTb.out.below b)
 replace LTc := Lib.hid (LTc.out.below b)
 replace HG := Lib.hid (HB.out.below HG.out b)
 clear b
 go_wp2_with fail
 go_ret
 exact ⟨ret_bool (by first | rfl | simp), b5⟩
set_option maxRecDepth 100000 in
set_option maxHeartbeats 4000000 in
theorem parts10_3 (H : TermC G) (p : Option Addr) (e : Nat) (a : List Nd) (q : Option Addr) (f : Nat) (b : List Nd) (r : Option Addr) (g : Nat) (c : List Nd) (w : World) (hca : a.length ≤ e) (hna : a.length ≤ 4611686018427387904) (HRa : Hid (∀ x ∈ a, RgN x)) (hTa : Nds w p a) (hcb : b.length ≤ f) (hnb : b.length ≤ 4611686018427387904) (HRb : Hid (∀ x ∈ b, RgN x)) (hTb : Nds w q b) (hcc : c.length ≤ g) (hnc : c.length ≤ 4611686018427387904) (HRc : Hid (∀ x ∈ c, RgN x)) (hTc : Nds w r c) (hg : G w) (hsa : smallT a = true) (hsb : smallT b = true) (hsc : smallT c = true) (hfa : formB a = false) : Calls Tryz.prog 4 #[.slice p a.length e, .slice q b.length f, .slice r c.length g] w (GiveB w true) := by
 have HB := Lib.hid H; have HG := Lib.hid hg; clear H hg
 have CSa : Hid (∀ V, Nds V p a → Calls Tryz.prog 8 #[.slice p a.length e] V (GiveB V true)) := Lib.hid fun V h => by
  have k := rtsmall_any p e a V hna h
  rw [hsa] at k
  exact k
 have CSb : Hid (∀ V, Nds V q b → Calls Tryz.prog 8 #[.slice q b.length f] V (GiveB V true)) := Lib.hid fun V h => by
  have k := rtsmall_any q f b V hnb h
  rw [hsb] at k
  exact k
 have CSc : Hid (∀ V, Nds V r c → Calls Tryz.prog 8 #[.slice r c.length g] V (GiveB V true)) := Lib.hid fun V h => by
  have k := rtsmall_any r g c V hnc h
  rw [hsc] at k
  exact k
 have CFa : Hid (∀ V, Nds V p a → Calls Tryz.prog 24 #[.slice p a.length e] V (GiveB V false)) := Lib.hid fun V h => by
  have k := rtformed_any p e a V h
  rw [hfa] at k
  exact k
 have LTa := Lib.hid hTa; have LTb := Lib.hid hTb; have LTc := Lib.hid hTc
 clear hTa hTb hTc hsa hsb hsc hfa
 go_enter Tryz.func4, Tryz.ntmps4
 have b0 := Below.refl w.heap.size w
 go_wp2_with fail
 refine (fixed10_any HB.out _ HG.out).mono ?_
 rintro e w1 ⟨rfl, b⟩
 have b1 := Below.more b0 b
 replace LTa := Lib.hid (LTa.out.below b)
 replace LTb := Lib.hid (LTb.out.below b)
 replace LTc := Lib.hid (LTc.out.below b)
 replace HG := Lib.hid (HB.out.below HG.out b)
 clear b
 go_wp2_with fail
 refine (CSa.out _ LTa.out).mono ?_
 rintro e w2 ⟨rfl, b⟩
 have b2 := Below.more b1 b
 replace LTa := Lib.hid (LTa.out.below b)
 replace LTb := Lib.hid (LTb.out.below b)
 replace LTc := Lib.hid (LTc.out.below b)
 replace HG := Lib.hid (HB.out.below HG.out b)
 clear b
 go_wp2_with fail
 refine (CSb.out _ LTb.out).mono ?_
 rintro e w3 ⟨rfl, b⟩
 have b3 := Below.more b2 b
 replace LTa := Lib.hid (LTa.out.below b)
 replace LTb := Lib.hid (LTb.out.below b)
 replace LTc := Lib.hid (LTc.out.below b)
 replace HG := Lib.hid (HB.out.below HG.out b)
 clear b
 go_wp2_with fail
 refine (CSc.out _ LTc.out).mono ?_
 rintro e w4 ⟨rfl, b⟩
 have b4 := Below.more b3 b
 replace LTa := Lib.hid (LTa.out.below b)
 replace LTb := Lib.hid (LTb.out.below b)
 replace LTc := Lib.hid (LTc.out.below b)
 replace HG := Lib.hid (HB.out.below HG.out b)
 clear b
 go_wp2_with fail
 refine (CFa.out _ LTa.out).mono ?_
 rintro e w5 ⟨rfl, b⟩
 have b5 := Below.more b4 b
 replace LTa := Lib.hid (LTa.out.below b)
 replace LTb := Lib.hid (LTb.out.below b)
 replace LTc := Lib.hid (LTc.out.below b)
 replace HG := Lib.hid (HB.out.below HG.out b)
 clear b
 go_wp2_with fail
 refine (fixed10_any HB.out _ HG.out).mono ?_
 rintro e w6 ⟨rfl, b⟩
 have b6 := Below.more b5 b
 replace LTa := Lib.hid (LTa.out.below b)
 replace LTb := Lib.hid (LTb.out.below b)
 replace LTc := Lib.hid (LTc.out.below b)
 replace HG := Lib.hid (HB.out.below HG.out b)
 clear b
 go_wp2_with fail
 go_ret
 exact ⟨ret_bool (by first | rfl | simp), b6⟩
set_option maxRecDepth 100000 in
set_option maxHeartbeats 4000000 in
theorem parts10_4 (H : TermC G) (p : Option Addr) (e : Nat) (a : List Nd) (q : Option Addr) (f : Nat) (b : List Nd) (r : Option Addr) (g : Nat) (c : List Nd) (w : World) (hca : a.length ≤ e) (hna : a.length ≤ 4611686018427387904) (HRa : Hid (∀ x ∈ a, RgN x)) (hTa : Nds w p a) (hcb : b.length ≤ f) (hnb : b.length ≤ 4611686018427387904) (HRb : Hid (∀ x ∈ b, RgN x)) (hTb : Nds w q b) (hcc : c.length ≤ g) (hnc : c.length ≤ 4611686018427387904) (HRc : Hid (∀ x ∈ c, RgN x)) (hTc : Nds w r c) (hg : G w) (hsa : smallT a = true) (hsb : smallT b = true) (hsc : smallT c = true) (hfa : formB a = true) (hfb : formB b = false) : Calls Tryz.prog 4 #[.slice p a.length e, .slice q b.length f, .slice r c.length g] w (GiveB w true) := by
 have HB := Lib.hid H; have HG := Lib.hid hg; clear H hg
 have CSa : Hid (∀ V, Nds V p a → Calls Tryz.prog 8 #[.slice p a.length e] V (GiveB V true)) := Lib.hid fun V h => by
  have k := rtsmall_any p e a V hna h
  rw [hsa] at k
  exact k
 have CSb : Hid (∀ V, Nds V q b → Calls Tryz.prog 8 #[.slice q b.length f] V (GiveB V true)) := Lib.hid fun V h => by
  have k := rtsmall_any q f b V hnb h
  rw [hsb] at k
  exact k
 have CSc : Hid (∀ V, Nds V r c → Calls Tryz.prog 8 #[.slice r c.length g] V (GiveB V true)) := Lib.hid fun V h => by
  have k := rtsmall_any r g c V hnc h
  rw [hsc] at k
  exact k
 have CFa : Hid (∀ V, Nds V p a → Calls Tryz.prog 24 #[.slice p a.length e] V (GiveB V true)) := Lib.hid fun V h => by
  have k := rtformed_any p e a V h
  rw [hfa] at k
  exact k
 have CFb : Hid (∀ V, Nds V q b → Calls Tryz.prog 24 #[.slice q b.length f] V (GiveB V false)) := Lib.hid fun V h => by
  have k := rtformed_any q f b V h
  rw [hfb] at k
  exact k
 have LTa := Lib.hid hTa; have LTb := Lib.hid hTb; have LTc := Lib.hid hTc
 clear hTa hTb hTc hsa hsb hsc hfa hfb
 go_enter Tryz.func4, Tryz.ntmps4
 have b0 := Below.refl w.heap.size w
 go_wp2_with fail
 refine (fixed10_any HB.out _ HG.out).mono ?_
 rintro e w1 ⟨rfl, b⟩
 have b1 := Below.more b0 b
 replace LTa := Lib.hid (LTa.out.below b)
 replace LTb := Lib.hid (LTb.out.below b)
 replace LTc := Lib.hid (LTc.out.below b)
 replace HG := Lib.hid (HB.out.below HG.out b)
 clear b
 go_wp2_with fail
 refine (CSa.out _ LTa.out).mono ?_
 rintro e w2 ⟨rfl, b⟩
 have b2 := Below.more b1 b
 replace LTa := Lib.hid (LTa.out.below b)
 replace LTb := Lib.hid (LTb.out.below b)
 replace LTc := Lib.hid (LTc.out.below b)
 replace HG := Lib.hid (HB.out.below HG.out b)
 clear b
 go_wp2_with fail
 refine (CSb.out _ LTb.out).mono ?_
 rintro e w3 ⟨rfl, b⟩
 have b3 := Below.more b2 b
 replace LTa := Lib.hid (LTa.out.below b)
 replace LTb := Lib.hid (LTb.out.below b)
 replace LTc := Lib.hid (LTc.out.below b)
 replace HG := Lib.hid (HB.out.below HG.out b)
 clear b
 go_wp2_with fail
 refine (CSc.out _ LTc.out).mono ?_
 rintro e w4 ⟨rfl, b⟩
 have b4 := Below.more b3 b
 replace LTa := Lib.hid (LTa.out.below b)
 replace LTb := Lib.hid (LTb.out.below b)
 replace LTc := Lib.hid (LTc.out.below b)
 replace HG := Lib.hid (HB.out.below HG.out b)
 clear b
 go_wp2_with fail
 refine (CFa.out _ LTa.out).mono ?_
 rintro e w5 ⟨rfl, b⟩
 have b5 := Below.more b4 b
 replace LTa := Lib.hid (LTa.out.below b)
 replace LTb := Lib.hid (LTb.out.below b)
 replace LTc := Lib.hid (LTc.out.below b)
 replace HG := Lib.hid (HB.out.below HG.out b)
 clear b
 go_wp2_with fail
 refine (CFb.out _ LTb.out).mono ?_
 rintro e w6 ⟨rfl, b⟩
 have b6 := Below.more b5 b
 replace LTa := Lib.hid (LTa.out.below b)
 replace LTb := Lib.hid (LTb.out.below b)
 replace LTc := Lib.hid (LTc.out.below b)
 replace HG := Lib.hid (HB.out.below HG.out b)
 clear b
 go_wp2_with fail
 refine (fixed10_any HB.out _ HG.out).mono ?_
 rintro e w7 ⟨rfl, b⟩
 have b7 := Below.more b6 b
 replace LTa := Lib.hid (LTa.out.below b)
 replace LTb := Lib.hid (LTb.out.below b)
 replace LTc := Lib.hid (LTc.out.below b)
 replace HG := Lib.hid (HB.out.below HG.out b)
 clear b
 go_wp2_with fail
 go_ret
 exact ⟨ret_bool (by first | rfl | simp), b7⟩
set_option maxRecDepth 100000 in
set_option maxHeartbeats 4000000 in
theorem parts10_5 (H : TermC G) (p : Option Addr) (e : Nat) (a : List Nd) (q : Option Addr) (f : Nat) (b : List Nd) (r : Option Addr) (g : Nat) (c : List Nd) (w : World) (hca : a.length ≤ e) (hna : a.length ≤ 4611686018427387904) (HRa : Hid (∀ x ∈ a, RgN x)) (hTa : Nds w p a) (hcb : b.length ≤ f) (hnb : b.length ≤ 4611686018427387904) (HRb : Hid (∀ x ∈ b, RgN x)) (hTb : Nds w q b) (hcc : c.length ≤ g) (hnc : c.length ≤ 4611686018427387904) (HRc : Hid (∀ x ∈ c, RgN x)) (hTc : Nds w r c) (hg : G w) (hsa : smallT a = true) (hsb : smallT b = true) (hsc : smallT c = true) (hfa : formB a = true) (hfb : formB b = true) (hfc : formB c = false) : Calls Tryz.prog 4 #[.slice p a.length e, .slice q b.length f, .slice r c.length g] w (GiveB w true) := by
 have HB := Lib.hid H; have HG := Lib.hid hg; clear H hg
 have CSa : Hid (∀ V, Nds V p a → Calls Tryz.prog 8 #[.slice p a.length e] V (GiveB V true)) := Lib.hid fun V h => by
  have k := rtsmall_any p e a V hna h
  rw [hsa] at k
  exact k
 have CSb : Hid (∀ V, Nds V q b → Calls Tryz.prog 8 #[.slice q b.length f] V (GiveB V true)) := Lib.hid fun V h => by
  have k := rtsmall_any q f b V hnb h
  rw [hsb] at k
  exact k
 have CSc : Hid (∀ V, Nds V r c → Calls Tryz.prog 8 #[.slice r c.length g] V (GiveB V true)) := Lib.hid fun V h => by
  have k := rtsmall_any r g c V hnc h
  rw [hsc] at k
  exact k
 have CFa : Hid (∀ V, Nds V p a → Calls Tryz.prog 24 #[.slice p a.length e] V (GiveB V true)) := Lib.hid fun V h => by
  have k := rtformed_any p e a V h
  rw [hfa] at k
  exact k
 have CFb : Hid (∀ V, Nds V q b → Calls Tryz.prog 24 #[.slice q b.length f] V (GiveB V true)) := Lib.hid fun V h => by
  have k := rtformed_any q f b V h
  rw [hfb] at k
  exact k
 have CFc : Hid (∀ V, Nds V r c → Calls Tryz.prog 24 #[.slice r c.length g] V (GiveB V false)) := Lib.hid fun V h => by
  have k := rtformed_any r g c V h
  rw [hfc] at k
  exact k
 have LTa := Lib.hid hTa; have LTb := Lib.hid hTb; have LTc := Lib.hid hTc
 clear hTa hTb hTc hsa hsb hsc hfa hfb hfc
 go_enter Tryz.func4, Tryz.ntmps4
 have b0 := Below.refl w.heap.size w
 go_wp2_with fail
 refine (fixed10_any HB.out _ HG.out).mono ?_
 rintro e w1 ⟨rfl, b⟩
 have b1 := Below.more b0 b
 replace LTa := Lib.hid (LTa.out.below b)
 replace LTb := Lib.hid (LTb.out.below b)
 replace LTc := Lib.hid (LTc.out.below b)
 replace HG := Lib.hid (HB.out.below HG.out b)
 clear b
 go_wp2_with fail
 refine (CSa.out _ LTa.out).mono ?_
 rintro e w2 ⟨rfl, b⟩
 have b2 := Below.more b1 b
 replace LTa := Lib.hid (LTa.out.below b)
 replace LTb := Lib.hid (LTb.out.below b)
 replace LTc := Lib.hid (LTc.out.below b)
 replace HG := Lib.hid (HB.out.below HG.out b)
 clear b
 go_wp2_with fail
 refine (CSb.out _ LTb.out).mono ?_
 rintro e w3 ⟨rfl, b⟩
 have b3 := Below.more b2 b
 replace LTa := Lib.hid (LTa.out.below b)
 replace LTb := Lib.hid (LTb.out.below b)
 replace LTc := Lib.hid (LTc.out.below b)
 replace HG := Lib.hid (HB.out.below HG.out b)
 clear b
 go_wp2_with fail
 refine (CSc.out _ LTc.out).mono ?_
 rintro e w4 ⟨rfl, b⟩
 have b4 := Below.more b3 b
 replace LTa := Lib.hid (LTa.out.below b)
 replace LTb := Lib.hid (LTb.out.below b)
 replace LTc := Lib.hid (LTc.out.below b)
 replace HG := Lib.hid (HB.out.below HG.out b)
 clear b
 go_wp2_with fail
 refine (CFa.out _ LTa.out).mono ?_
 rintro e w5 ⟨rfl, b⟩
 have b5 := Below.more b4 b
 replace LTa := Lib.hid (LTa.out.below b)
 replace LTb := Lib.hid (LTb.out.below b)
 replace LTc := Lib.hid (LTc.out.below b)
 replace HG := Lib.hid (HB.out.below HG.out b)
 clear b
 go_wp2_with fail
 refine (CFb.out _ LTb.out).mono ?_
 rintro e w6 ⟨rfl, b⟩
 have b6 := Below.more b5 b
 replace LTa := Lib.hid (LTa.out.below b)
 replace LTb := Lib.hid (LTb.out.below b)
 replace LTc := Lib.hid (LTc.out.below b)
 replace HG := Lib.hid (HB.out.below HG.out b)
 clear b
 go_wp2_with fail
 refine (CFc.out _ LTc.out).mono ?_
 rintro e w7 ⟨rfl, b⟩
 have b7 := Below.more b6 b
 replace LTa := Lib.hid (LTa.out.below b)
 replace LTb := Lib.hid (LTb.out.below b)
 replace LTc := Lib.hid (LTc.out.below b)
 replace HG := Lib.hid (HB.out.below HG.out b)
 clear b
 go_wp2_with fail
 refine (fixed10_any HB.out _ HG.out).mono ?_
 rintro e w8 ⟨rfl, b⟩
 have b8 := Below.more b7 b
 replace LTa := Lib.hid (LTa.out.below b)
 replace LTb := Lib.hid (LTb.out.below b)
 replace LTc := Lib.hid (LTc.out.below b)
 replace HG := Lib.hid (HB.out.below HG.out b)
 clear b
 go_wp2_with fail
 go_ret
 exact ⟨ret_bool (by first | rfl | simp), b8⟩
theorem ints2 (w : World) (n : Int) (t : TypeId) : Calls Tryz.prog 25 #[.slice (some ⟨w.heap.size, 0, none⟩) 1 1, .slice (some ⟨w.heap.size + 1, 0, none⟩) 1 1] ((w.alloc (.cells #[.int .i64 n] t)).alloc (.cells #[.int .i64 n] t)) (GiveB ((w.alloc (.cells #[.int .i64 n] t)).alloc (.cells #[.int .i64 n] t)) true) := by
 have h1 : Nums (w.alloc (.cells #[.int .i64 n] t)) (some ⟨w.heap.size, 0, none⟩) [n] := nums_of (rowsOne w n t _ rfl)
 have h2 : Nums ((w.alloc (.cells #[.int .i64 n] t)).alloc (.cells #[.int .i64 n] t)) (some ⟨(w.alloc (.cells #[.int .i64 n] t)).heap.size, 0, none⟩) [n] := nums_of (rowsOne _ n t _ rfl)
 rw [show (w.alloc (.cells #[.int .i64 n] t)).heap.size = w.heap.size + 1 by simp] at h2
 have k := riints_any _ _ 1 1 [n] [n] _ (show 1 ≤ 4611686018427387904 by decide) (show 1 ≤ 4611686018427387904 by decide) (h1.below (Below.alloc (Below.refl _ _) (Nat.le_refl _) _)) h2
 rw [decide_eq_true rfl] at k
 exact k
set_option maxRecDepth 100000 in
set_option maxHeartbeats 4000000 in
theorem parts10_main (H : TermC G) (p : Option Addr) (e : Nat) (a : List Nd) (q : Option Addr) (f : Nat) (b : List Nd) (r : Option Addr) (g : Nat) (c : List Nd) (w : World) (hca : a.length ≤ e) (hna : a.length ≤ 4611686018427387904) (HRa : Hid (∀ x ∈ a, RgN x)) (hTa : Nds w p a) (hcb : b.length ≤ f) (hnb : b.length ≤ 4611686018427387904) (HRb : Hid (∀ x ∈ b, RgN x)) (hTb : Nds w q b) (hcc : c.length ≤ g) (hnc : c.length ≤ 4611686018427387904) (HRc : Hid (∀ x ∈ c, RgN x)) (hTc : Nds w r c) (hg : G w) (hsa : smallT a = true) (hsb : smallT b = true) (hsc : smallT c = true) (hfa : formB a = true) (hfb : formB b = true) (hfc : formB c = true) : Calls Tryz.prog 4 #[.slice p a.length e, .slice q b.length f, .slice r c.length g] w (GiveB w true) := by
 have hza := small_sz hsa HRa.out; have hzb := small_sz hsb HRb.out; have hzc := small_sz hsc HRc.out
 have hla := small_len hsa; have hlb := small_len hsb; have hlc := small_len hsc
 obtain ⟨_, hargs, hdep⟩ := Tm.join3 hfa hfb hfc (by omega)
 obtain ⟨x, hx, hxa, hxf, hx1⟩ := Tm.args_len hfa
 have hjl := Tm.join_len 12 [a, b, c]
 have hzt : ∀ x ∈ joinT 12 [a, b, c], SzN x := fun x hx => by
  have hx : x ∈ [a, b, c].flatten ++ [plainN 12] := hx
  rcases List.mem_append.1 hx with h | h
  ·simp only [List.flatten_cons, List.flatten_nil, List.append_nil, List.mem_append] at h
   rcases h with h | h | h
   ·exact hza x h
   ·exact hzb x h
   ·exact hzc x h
  ·rw [List.mem_singleton.1 h]; exact szN_plain 12 (by decide) (by decide)
 have hfl : [a, b, c].flatten.length = a.length + b.length + c.length := by simp; omega
 rw [hfl] at hjl
 have cj := fun V q (h : Trms V q [a, b, c]) (g : G V) => H.join 12 q 3 [a, b, c] V (by decide) (by decide) (Nat.le_refl _) (show 3 ≤ 100 by decide) (by rw [hfl]; omega) h g
 have cat := fun V q c' (hc : (joinT 12 [a, b, c]).length ≤ c') (h : Nds V q (joinT 12 [a, b, c])) (g : G V) => H.args q c' (joinT 12 [a, b, c]) V hc (by omega) hzt h g
 rw [hargs] at cat
 have cdt := fun V q c' (hc : (joinT 12 [a, b, c]).length ≤ c') (h : Nds V q (joinT 12 [a, b, c])) (g : G V) => H.depth q c' (joinT 12 [a, b, c]) V hc (by omega) hzt h g
 rw [hdep] at cdt
 have caa := fun V (h : Nds V p a) (g : G V) => H.args p e a V hca (by omega) hza h g
 have cda := fun V (h : Nds V p a) (g : G V) => H.depth p e a V hca (by omega) hza h g
 have cdb := fun V (h : Nds V q b) (g : G V) => H.depth q f b V hcb (by omega) hzb h g
 have cdc := fun V (h : Nds V r c) (g : G V) => H.depth r _ c V hcc (by omega) hzc h g
 have call := fun V q r d e (h : Trms V q [a, b, c]) (k : Trms V r [a, b, c]) => rtall_any q r d e [a, b, c] [a, b, c] V (show 3 ≤ 4611686018427387904 by decide) (show 3 ≤ 4611686018427387904 by decide) (Lib.hid fun u hu => by simp only [List.mem_cons, List.not_mem_nil, or_false] at hu; rcases hu with rfl | rfl | rfl <;> omega) (Lib.hid fun u hu => by simp only [List.mem_cons, List.not_mem_nil, or_false] at hu; rcases hu with rfl | rfl | rfl <;> omega) h k
 rw [decide_eq_true rfl] at call
 have hl2 := Tm.join_len 6 [a, b]
 have hf2 : [a, b].flatten.length = a.length + b.length := by simp
 rw [hf2] at hl2
 have cj2 := fun V q (h : Trms V q [a, b]) (g : G V) => H.join 6 q 2 [a, b] V (by decide) (by decide) (Nat.le_refl _) (show 2 ≤ 100 by decide) (by rw [hf2]; omega) h g
 generalize joinT 12 [a, b, c] = T at *
 generalize joinT 6 [a, b] = J at *
 have har := Tm.args_short a
 have HAF : Hid ((argsT a).flatten.length + 1 = a.length ∧ a.length ≤ 200) := Lib.hid ⟨hxf, hla⟩
 generalize argsT a = A at *
 have hda := Nat.le_trans (Tm.depth_le a) hla; have hdb := Nat.le_trans (Tm.depth_le b) hlb; have hdc := Nat.le_trans (Tm.depth_le c) hlc
 generalize depthT a = Da at *
 generalize depthT b = Db at *
 generalize depthT c = Dc at *
 obtain ⟨M, hM, hmx⟩ : ∃ M : Nat, max Da (max Db Dc) + 1 = M + 1 ∧ max (max (Da : Int) (Db : Int)) (Dc : Int) = (M : Int) := ⟨max Da (max Db Dc), rfl, by omega⟩
 have HB := Lib.hid H; have HG := Lib.hid hg; clear H hg
 have CSa : Hid (∀ V, Nds V p a → Calls Tryz.prog 8 #[.slice p a.length e] V (GiveB V true)) := Lib.hid fun V h => by
  have k := rtsmall_any p e a V hna h
  rw [hsa] at k
  exact k
 have CSb : Hid (∀ V, Nds V q b → Calls Tryz.prog 8 #[.slice q b.length f] V (GiveB V true)) := Lib.hid fun V h => by
  have k := rtsmall_any q f b V hnb h
  rw [hsb] at k
  exact k
 have CSc : Hid (∀ V, Nds V r c → Calls Tryz.prog 8 #[.slice r c.length g] V (GiveB V true)) := Lib.hid fun V h => by
  have k := rtsmall_any r g c V hnc h
  rw [hsc] at k
  exact k
 have CFa : Hid (∀ V, Nds V p a → Calls Tryz.prog 24 #[.slice p a.length e] V (GiveB V true)) := Lib.hid fun V h => by
  have k := rtformed_any p e a V h
  rw [hfa] at k
  exact k
 have CFb : Hid (∀ V, Nds V q b → Calls Tryz.prog 24 #[.slice q b.length f] V (GiveB V true)) := Lib.hid fun V h => by
  have k := rtformed_any q f b V h
  rw [hfb] at k
  exact k
 have CFc : Hid (∀ V, Nds V r c → Calls Tryz.prog 24 #[.slice r c.length g] V (GiveB V true)) := Lib.hid fun V h => by
  have k := rtformed_any r g c V h
  rw [hfc] at k
  exact k
 have LTa := Lib.hid hTa; have LTb := Lib.hid hTb; have LTc := Lib.hid hTc
 have CJ := Lib.hid cj; have CAT := Lib.hid cat; have CDT := Lib.hid cdt; have CAa := Lib.hid caa; have CDa := Lib.hid cda; have CDb := Lib.hid cdb; have CDc := Lib.hid cdc; have CAll := Lib.hid call; have CJ2 := Lib.hid cj2
 obtain ⟨L1, hL1⟩ : ∃ L1, a.length = L1 + 1 := ⟨a.length - 1, by omega⟩
 have hsub : a.length - 1 = L1 := by omega
 rw [hsub] at hx
 have hi0 : L1 < a.length := by omega
 have hi1 : wrap64 ((a.length : Int) - 1) = (L1 : Int) := (IntWalk.wrap64_in _ ⟨by omega, by omega⟩).trans (by omega)
 have hi2 : IntKind.i64.wrap ((a.length : Int) - 1) = (L1 : Int) := (IntWalk.i64_in _ (by omega)).trans (by omega)
 have hrx := (HRa.out x (List.mem_of_getElem? hx)).1
 have CAR : Hid (∀ V, G V → Calls Tryz.prog 19 #[.int .i64 x.op] V (GiveI V (A.length : Int))) := Lib.hid fun V g => by
  have k := HB.out.arity x.op V hrx.1 hrx.2 g
  rw [hxa] at k
  exact k
 have HL1 := Lib.hid hL1
 clear hL1 hsub hrx
 have HX := Lib.hid hx; have HXA := Lib.hid hxa; have HJL := Lib.hid hjl; have HL2 := Lib.hid hl2
 clear hTa hTb hTc hsa hsb hsc hfa hfb hfc cj cat cdt caa cda cdb cdc call cj2 hx hxa hxf hza hzb hzc hzt hargs hdep hfl hf2 hjl hl2
 go_enter Tryz.func4, Tryz.ntmps4
 have b0 := Below.refl w.heap.size w
 go_wp2_with fail
 refine (fixed10_any HB.out _ HG.out).mono ?_
 rintro e w1 ⟨rfl, b⟩
 have b1 := Below.more b0 b
 replace LTa := Lib.hid (LTa.out.below b)
 replace LTb := Lib.hid (LTb.out.below b)
 replace LTc := Lib.hid (LTc.out.below b)
 replace HG := Lib.hid (HB.out.below HG.out b)
 clear b
 go_wp2_with fail
 refine (CSa.out _ LTa.out).mono ?_
 rintro e w2 ⟨rfl, b⟩
 have b2 := Below.more b1 b
 replace LTa := Lib.hid (LTa.out.below b)
 replace LTb := Lib.hid (LTb.out.below b)
 replace LTc := Lib.hid (LTc.out.below b)
 replace HG := Lib.hid (HB.out.below HG.out b)
 clear b
 go_wp2_with fail
 refine (CSb.out _ LTb.out).mono ?_
 rintro e w3 ⟨rfl, b⟩
 have b3 := Below.more b2 b
 replace LTa := Lib.hid (LTa.out.below b)
 replace LTb := Lib.hid (LTb.out.below b)
 replace LTc := Lib.hid (LTc.out.below b)
 replace HG := Lib.hid (HB.out.below HG.out b)
 clear b
 go_wp2_with fail
 refine (CSc.out _ LTc.out).mono ?_
 rintro e w4 ⟨rfl, b⟩
 have b4 := Below.more b3 b
 replace LTa := Lib.hid (LTa.out.below b)
 replace LTb := Lib.hid (LTb.out.below b)
 replace LTc := Lib.hid (LTc.out.below b)
 replace HG := Lib.hid (HB.out.below HG.out b)
 clear b
 go_wp2_with fail
 refine (CFa.out _ LTa.out).mono ?_
 rintro e w5 ⟨rfl, b⟩
 have b5 := Below.more b4 b
 replace LTa := Lib.hid (LTa.out.below b)
 replace LTb := Lib.hid (LTb.out.below b)
 replace LTc := Lib.hid (LTc.out.below b)
 replace HG := Lib.hid (HB.out.below HG.out b)
 clear b
 go_wp2_with fail
 refine (CFb.out _ LTb.out).mono ?_
 rintro e w6 ⟨rfl, b⟩
 have b6 := Below.more b5 b
 replace LTa := Lib.hid (LTa.out.below b)
 replace LTb := Lib.hid (LTb.out.below b)
 replace LTc := Lib.hid (LTc.out.below b)
 replace HG := Lib.hid (HB.out.below HG.out b)
 clear b
 go_wp2_with fail
 refine (CFc.out _ LTc.out).mono ?_
 rintro e w7 ⟨rfl, b⟩
 have b7 := Below.more b6 b
 replace LTa := Lib.hid (LTa.out.below b)
 replace LTb := Lib.hid (LTb.out.below b)
 replace LTc := Lib.hid (LTc.out.below b)
 replace HG := Lib.hid (HB.out.below HG.out b)
 clear b
 go_wp2_with fail
 obtain ⟨w8, hU⟩ : ∃ U, w7.alloc (.cells #[.slice p a.length e, .slice q b.length f, .slice r c.length g] 23) = U := ⟨_, rfl⟩
 have hrow := trms3 w7 p q r _ _ _ e f g a b c rfl rfl rfl hca hcb hcc LTa.out LTb.out LTc.out
 have b : Below w7.heap.size w7 (w7.alloc (.cells #[.slice p a.length e, .slice q b.length f, .slice r c.length g] 23)) := Below.alloc (Below.refl _ _) (Nat.le_refl _) _
 rw [hU] at hrow b ⊢
 have b8 := Below.more b7 b
 replace LTa := Lib.hid (LTa.out.below b)
 replace LTb := Lib.hid (LTb.out.below b)
 replace LTc := Lib.hid (LTc.out.below b)
 replace HG := Lib.hid (HB.out.below HG.out b)
 have Lj := Lib.hid hrow
 clear b hrow hU
 refine (CJ.out _ _ Lj.out HG.out).mono ?_
 rintro e w9 ⟨⟨pt, ct, rfl, hct, lt⟩, b⟩
 have b9 := Below.more b8 b
 replace LTa := Lib.hid (LTa.out.below b)
 replace LTb := Lib.hid (LTb.out.below b)
 replace LTc := Lib.hid (LTc.out.below b)
 replace Lj := Lib.hid (Lj.out.below b)
 replace HG := Lib.hid (HB.out.below HG.out b)
 have Lt := Lib.hid lt
 clear b lt
 go_wp2_with fail
 refine (CAT.out _ _ _ hct Lt.out HG.out).mono ?_
 rintro e w10 ⟨⟨pl, cl, rfl, hcl, ll⟩, b⟩
 have b10 := Below.more b9 b
 replace LTa := Lib.hid (LTa.out.below b)
 replace LTb := Lib.hid (LTb.out.below b)
 replace LTc := Lib.hid (LTc.out.below b)
 replace Lj := Lib.hid (Lj.out.below b)
 replace Lt := Lib.hid (Lt.out.below b)
 replace HG := Lib.hid (HB.out.below HG.out b)
 have Ll := Lib.hid ll
 clear b ll
 go_wp2_with fail
 refine (CAa.out _ LTa.out HG.out).mono ?_
 rintro e w11 ⟨⟨pd, cd, rfl, hcd, ld⟩, b⟩
 have b11 := Below.more b10 b
 replace LTa := Lib.hid (LTa.out.below b)
 replace LTb := Lib.hid (LTb.out.below b)
 replace LTc := Lib.hid (LTc.out.below b)
 replace Lj := Lib.hid (Lj.out.below b)
 replace Lt := Lib.hid (Lt.out.below b)
 replace Ll := Lib.hid (Ll.out.below b)
 replace HG := Lib.hid (HB.out.below HG.out b)
 have Ld := Lib.hid ld
 clear b ld
 go_wp2_with fail
 go_loopw [10, 11] (fun nv iv wr => ∃ k N : Nat, k ≤ A.length ∧ iv = .int .i64 k ∧ nv = .int .i64 N ∧ Hid (N = (A.take k).flatten.length) ∧ Below w11.heap.size w11 wr) (fun _ iv _ => A.length - (intOf iv).toNat)
 case atStart => exact ⟨0, 0, Nat.zero_le _, rfl, rfl, Lib.hid rfl, Below.refl _ _⟩
 case round =>
  obtain ⟨k, N, hk, rfl, rfl, HN, hbw⟩ := hrel
  by_cases hlt : k < A.length
  ·obtain ⟨u, hu⟩ : ∃ u, A[k]? = some u := ⟨_, List.getElem?_eq_getElem hlt⟩
   obtain ⟨bd, od, qd, cd', hpd, kd0, _, _⟩ := (Ld.out.below hbw).rule hu
   cases hpd
   have hki : (k : Int) < (A.length : Int) := by omega
   have HF : Hid (N + u.length = (A.take (k + 1)).flatten.length) := Lib.hid (by rw [take_flat hu, List.length_append, HN.out])
   have hbd : N + u.length ≤ 200 := by
    have h1 := take_flat_le A (k + 1)
    have h2 := HF.out
    have h3 := HAF.out
    omega
   have bq := Below.refl wr.heap.size wr
   clear hu HN
   go_wp2_with fail
   go_roundw
   case rel => exact ⟨k + 1, N + u.length, hlt, by go_num, by go_num, HF, hbw⟩
   case measure => simp [intOf]; omega
  ·obtain rfl : k = A.length := by omega
   obtain rfl : N = L1 := by
    have h1 : N + 1 = a.length := by rw [HN.out, List.take_length]; exact HAF.out.1
    have h2 := HL1.out
    omega
   clear HN hlt hk
   have b12 := Below.more b11 hbw
   replace LTa := Lib.hid (LTa.out.below hbw)
   replace LTb := Lib.hid (LTb.out.below hbw)
   replace LTc := Lib.hid (LTc.out.below hbw)
   replace Lj := Lib.hid (Lj.out.below hbw)
   replace Lt := Lib.hid (Lt.out.below hbw)
   replace Ll := Lib.hid (Ll.out.below hbw)
   replace Ld := Lib.hid (Ld.out.below hbw)
   replace HG := Lib.hid (HB.out.below HG.out hbw)
   clear hbw
   go_wp2_with fail
   refine (CDa.out _ LTa.out HG.out).mono ?_
   rintro e w13 ⟨rfl, b⟩
   have b13 := Below.more b12 b
   replace LTa := Lib.hid (LTa.out.below b)
   replace LTb := Lib.hid (LTb.out.below b)
   replace LTc := Lib.hid (LTc.out.below b)
   replace Lj := Lib.hid (Lj.out.below b)
   replace Lt := Lib.hid (Lt.out.below b)
   replace Ll := Lib.hid (Ll.out.below b)
   replace Ld := Lib.hid (Ld.out.below b)
   replace HG := Lib.hid (HB.out.below HG.out b)
   clear b
   go_wp2_with fail
   refine (CDb.out _ LTb.out HG.out).mono ?_
   rintro e w14 ⟨rfl, b⟩
   have b14 := Below.more b13 b
   replace LTa := Lib.hid (LTa.out.below b)
   replace LTb := Lib.hid (LTb.out.below b)
   replace LTc := Lib.hid (LTc.out.below b)
   replace Lj := Lib.hid (Lj.out.below b)
   replace Lt := Lib.hid (Lt.out.below b)
   replace Ll := Lib.hid (Ll.out.below b)
   replace Ld := Lib.hid (Ld.out.below b)
   replace HG := Lib.hid (HB.out.below HG.out b)
   clear b
   go_wp2_with fail
   refine (CDc.out _ LTc.out HG.out).mono ?_
   rintro e w15 ⟨rfl, b⟩
   have b15 := Below.more b14 b
   replace LTa := Lib.hid (LTa.out.below b)
   replace LTb := Lib.hid (LTb.out.below b)
   replace LTc := Lib.hid (LTc.out.below b)
   replace Lj := Lib.hid (Lj.out.below b)
   replace Lt := Lib.hid (Lt.out.below b)
   replace Ll := Lib.hid (Ll.out.below b)
   replace Ld := Lib.hid (Ld.out.below b)
   replace HG := Lib.hid (HB.out.below HG.out b)
   clear b
   by_cases g1 : Da < Db
   ·by_cases g2 : Db < Dc
    ·have h0 : Da < Db := by omega
     have h0i : (Da : Int) < (Db : Int) := by omega
     have h0d : decide (Da < Db) = true := decide_eq_true h0
     have h0e : decide ((Da : Int) < (Db : Int)) = true := decide_eq_true h0i
     have h1 : Db < Dc := by omega
     have h1i : (Db : Int) < (Dc : Int) := by omega
     have h1d : decide (Db < Dc) = true := decide_eq_true h1
     have h1e : decide ((Db : Int) < (Dc : Int)) = true := decide_eq_true h1i
     obtain rfl : M = Dc := by omega
     clear hmx
     go_wp2_with fail
     obtain ⟨w16, hU⟩ : ∃ U, w15.alloc (.cells #[.slice p a.length e, .slice q b.length f, .slice r c.length g] 23) = U := ⟨_, rfl⟩
     have hrow := trms3 w15 p q r _ _ _ e f g a b c rfl rfl rfl hca hcb hcc LTa.out LTb.out LTc.out
     have b : Below w15.heap.size w15 (w15.alloc (.cells #[.slice p a.length e, .slice q b.length f, .slice r c.length g] 23)) := Below.alloc (Below.refl _ _) (Nat.le_refl _) _
     rw [hU] at hrow b ⊢
     have b16 := Below.more b15 b
     replace LTa := Lib.hid (LTa.out.below b)
     replace LTb := Lib.hid (LTb.out.below b)
     replace LTc := Lib.hid (LTc.out.below b)
     replace Lj := Lib.hid (Lj.out.below b)
     replace Lt := Lib.hid (Lt.out.below b)
     replace Ll := Lib.hid (Ll.out.below b)
     replace Ld := Lib.hid (Ld.out.below b)
     replace HG := Lib.hid (HB.out.below HG.out b)
     have Lm := Lib.hid hrow
     clear b hrow hU
     refine (CAll.out _ _ _ _ _ Ll.out Lm.out).mono ?_
     rintro e w17 ⟨rfl, b⟩
     have b17 := Below.more b16 b
     replace LTa := Lib.hid (LTa.out.below b)
     replace LTb := Lib.hid (LTb.out.below b)
     replace LTc := Lib.hid (LTc.out.below b)
     replace Lj := Lib.hid (Lj.out.below b)
     replace Lt := Lib.hid (Lt.out.below b)
     replace Ll := Lib.hid (Ll.out.below b)
     replace Ld := Lib.hid (Ld.out.below b)
     replace Lm := Lib.hid (Lm.out.below b)
     replace HG := Lib.hid (HB.out.below HG.out b)
     clear b
     go_wp2_with fail
     refine (CDT.out _ _ _ hct Lt.out HG.out).mono ?_
     rintro e w18 ⟨rfl, b⟩
     have b18 := Below.more b17 b
     replace LTa := Lib.hid (LTa.out.below b)
     replace LTb := Lib.hid (LTb.out.below b)
     replace LTc := Lib.hid (LTc.out.below b)
     replace Lj := Lib.hid (Lj.out.below b)
     replace Lt := Lib.hid (Lt.out.below b)
     replace Ll := Lib.hid (Ll.out.below b)
     replace Ld := Lib.hid (Ld.out.below b)
     replace Lm := Lib.hid (Lm.out.below b)
     replace HG := Lib.hid (HB.out.below HG.out b)
     clear b
     rw [hM]
     clear hM
     obtain ⟨ba, oa, hpa, ka0, _⟩ := nds_rule LTa.out HX.out
     subst hpa
     have bq := Below.refl w18.heap.size w18
     go_wp2_with fail
     refine (CAR.out _ HG.out).mono ?_
     rintro e w19 ⟨rfl, b⟩
     have b19 := Below.more b18 b
     replace LTa := Lib.hid (LTa.out.below b)
     replace LTb := Lib.hid (LTb.out.below b)
     replace LTc := Lib.hid (LTc.out.below b)
     replace Lj := Lib.hid (Lj.out.below b)
     replace Lt := Lib.hid (Lt.out.below b)
     replace Ll := Lib.hid (Ll.out.below b)
     replace Ld := Lib.hid (Ld.out.below b)
     replace Lm := Lib.hid (Lm.out.below b)
     replace HG := Lib.hid (HB.out.below HG.out b)
     clear b
     clear bq ka0
     go_wp2_with fail
     obtain ⟨w20, hU⟩ : ∃ U, w19.alloc (.cells #[.slice (some ⟨ba, oa, none⟩) a.length e, .slice q b.length f] 23) = U := ⟨_, rfl⟩
     have hrow := trms2 w19 (some ⟨ba, oa, none⟩) q _ _ e f a b rfl rfl hca hcb LTa.out LTb.out
     have b : Below w19.heap.size w19 (w19.alloc (.cells #[.slice (some ⟨ba, oa, none⟩) a.length e, .slice q b.length f] 23)) := Below.alloc (Below.refl _ _) (Nat.le_refl _) _
     rw [hU] at hrow b ⊢
     have b20 := Below.more b19 b
     replace LTa := Lib.hid (LTa.out.below b)
     replace LTb := Lib.hid (LTb.out.below b)
     replace LTc := Lib.hid (LTc.out.below b)
     replace Lj := Lib.hid (Lj.out.below b)
     replace Lt := Lib.hid (Lt.out.below b)
     replace Ll := Lib.hid (Ll.out.below b)
     replace Ld := Lib.hid (Ld.out.below b)
     replace Lm := Lib.hid (Lm.out.below b)
     replace HG := Lib.hid (HB.out.below HG.out b)
     have Ln := Lib.hid hrow
     clear b hrow hU
     refine (CJ2.out _ _ Ln.out HG.out).mono ?_
     rintro e w21 ⟨⟨px, cx, rfl, hcx, lx⟩, b⟩
     have b21 := Below.more b20 b
     replace LTa := Lib.hid (LTa.out.below b)
     replace LTb := Lib.hid (LTb.out.below b)
     replace LTc := Lib.hid (LTc.out.below b)
     replace Lj := Lib.hid (Lj.out.below b)
     replace Lt := Lib.hid (Lt.out.below b)
     replace Ll := Lib.hid (Ll.out.below b)
     replace Ld := Lib.hid (Ld.out.below b)
     replace Lm := Lib.hid (Lm.out.below b)
     replace Ln := Lib.hid (Ln.out.below b)
     replace HG := Lib.hid (HB.out.below HG.out b)
     have Lx := Lib.hid lx
     clear b lx
     rw [HL2.out]
     go_wp2_with fail
     refine (ints2 w21 _ _).mono ?_
     rintro e w9 ⟨rfl, b⟩
     have bz := Below.more b21 (Below.more (Below.alloc (Below.refl _ _) (Nat.le_refl _) _) (Below.more (Below.alloc (Below.refl _ _) (Nat.le_refl _) _) b))
     go_wp2_with fail
     go_ret
     exact ⟨ret_bool (by first | rfl | simp), bz⟩
    ·have h0 : Da < Db := by omega
     have h0i : (Da : Int) < (Db : Int) := by omega
     have h0d : decide (Da < Db) = true := decide_eq_true h0
     have h0e : decide ((Da : Int) < (Db : Int)) = true := decide_eq_true h0i
     have h1 : ¬ Db < Dc := by omega
     have h1i : ¬ (Db : Int) < (Dc : Int) := by omega
     have h1d : decide (Db < Dc) = false := decide_eq_false h1
     have h1e : decide ((Db : Int) < (Dc : Int)) = false := decide_eq_false h1i
     obtain rfl : M = Db := by omega
     clear hmx
     go_wp2_with fail
     obtain ⟨w16, hU⟩ : ∃ U, w15.alloc (.cells #[.slice p a.length e, .slice q b.length f, .slice r c.length g] 23) = U := ⟨_, rfl⟩
     have hrow := trms3 w15 p q r _ _ _ e f g a b c rfl rfl rfl hca hcb hcc LTa.out LTb.out LTc.out
     have b : Below w15.heap.size w15 (w15.alloc (.cells #[.slice p a.length e, .slice q b.length f, .slice r c.length g] 23)) := Below.alloc (Below.refl _ _) (Nat.le_refl _) _
     rw [hU] at hrow b ⊢
     have b16 := Below.more b15 b
     replace LTa := Lib.hid (LTa.out.below b)
     replace LTb := Lib.hid (LTb.out.below b)
     replace LTc := Lib.hid (LTc.out.below b)
     replace Lj := Lib.hid (Lj.out.below b)
     replace Lt := Lib.hid (Lt.out.below b)
     replace Ll := Lib.hid (Ll.out.below b)
     replace Ld := Lib.hid (Ld.out.below b)
     replace HG := Lib.hid (HB.out.below HG.out b)
     have Lm := Lib.hid hrow
     clear b hrow hU
     refine (CAll.out _ _ _ _ _ Ll.out Lm.out).mono ?_
     rintro e w17 ⟨rfl, b⟩
     have b17 := Below.more b16 b
     replace LTa := Lib.hid (LTa.out.below b)
     replace LTb := Lib.hid (LTb.out.below b)
     replace LTc := Lib.hid (LTc.out.below b)
     replace Lj := Lib.hid (Lj.out.below b)
     replace Lt := Lib.hid (Lt.out.below b)
     replace Ll := Lib.hid (Ll.out.below b)
     replace Ld := Lib.hid (Ld.out.below b)
     replace Lm := Lib.hid (Lm.out.below b)
     replace HG := Lib.hid (HB.out.below HG.out b)
     clear b
     go_wp2_with fail
     refine (CDT.out _ _ _ hct Lt.out HG.out).mono ?_
     rintro e w18 ⟨rfl, b⟩
     have b18 := Below.more b17 b
     replace LTa := Lib.hid (LTa.out.below b)
     replace LTb := Lib.hid (LTb.out.below b)
     replace LTc := Lib.hid (LTc.out.below b)
     replace Lj := Lib.hid (Lj.out.below b)
     replace Lt := Lib.hid (Lt.out.below b)
     replace Ll := Lib.hid (Ll.out.below b)
     replace Ld := Lib.hid (Ld.out.below b)
     replace Lm := Lib.hid (Lm.out.below b)
     replace HG := Lib.hid (HB.out.below HG.out b)
     clear b
     rw [hM]
     clear hM
     obtain ⟨ba, oa, hpa, ka0, _⟩ := nds_rule LTa.out HX.out
     subst hpa
     have bq := Below.refl w18.heap.size w18
     go_wp2_with fail
     refine (CAR.out _ HG.out).mono ?_
     rintro e w19 ⟨rfl, b⟩
     have b19 := Below.more b18 b
     replace LTa := Lib.hid (LTa.out.below b)
     replace LTb := Lib.hid (LTb.out.below b)
     replace LTc := Lib.hid (LTc.out.below b)
     replace Lj := Lib.hid (Lj.out.below b)
     replace Lt := Lib.hid (Lt.out.below b)
     replace Ll := Lib.hid (Ll.out.below b)
     replace Ld := Lib.hid (Ld.out.below b)
     replace Lm := Lib.hid (Lm.out.below b)
     replace HG := Lib.hid (HB.out.below HG.out b)
     clear b
     clear bq ka0
     go_wp2_with fail
     obtain ⟨w20, hU⟩ : ∃ U, w19.alloc (.cells #[.slice (some ⟨ba, oa, none⟩) a.length e, .slice q b.length f] 23) = U := ⟨_, rfl⟩
     have hrow := trms2 w19 (some ⟨ba, oa, none⟩) q _ _ e f a b rfl rfl hca hcb LTa.out LTb.out
     have b : Below w19.heap.size w19 (w19.alloc (.cells #[.slice (some ⟨ba, oa, none⟩) a.length e, .slice q b.length f] 23)) := Below.alloc (Below.refl _ _) (Nat.le_refl _) _
     rw [hU] at hrow b ⊢
     have b20 := Below.more b19 b
     replace LTa := Lib.hid (LTa.out.below b)
     replace LTb := Lib.hid (LTb.out.below b)
     replace LTc := Lib.hid (LTc.out.below b)
     replace Lj := Lib.hid (Lj.out.below b)
     replace Lt := Lib.hid (Lt.out.below b)
     replace Ll := Lib.hid (Ll.out.below b)
     replace Ld := Lib.hid (Ld.out.below b)
     replace Lm := Lib.hid (Lm.out.below b)
     replace HG := Lib.hid (HB.out.below HG.out b)
     have Ln := Lib.hid hrow
     clear b hrow hU
     refine (CJ2.out _ _ Ln.out HG.out).mono ?_
     rintro e w21 ⟨⟨px, cx, rfl, hcx, lx⟩, b⟩
     have b21 := Below.more b20 b
     replace LTa := Lib.hid (LTa.out.below b)
     replace LTb := Lib.hid (LTb.out.below b)
     replace LTc := Lib.hid (LTc.out.below b)
     replace Lj := Lib.hid (Lj.out.below b)
     replace Lt := Lib.hid (Lt.out.below b)
     replace Ll := Lib.hid (Ll.out.below b)
     replace Ld := Lib.hid (Ld.out.below b)
     replace Lm := Lib.hid (Lm.out.below b)
     replace Ln := Lib.hid (Ln.out.below b)
     replace HG := Lib.hid (HB.out.below HG.out b)
     have Lx := Lib.hid lx
     clear b lx
     rw [HL2.out]
     go_wp2_with fail
     refine (ints2 w21 _ _).mono ?_
     rintro e w9 ⟨rfl, b⟩
     have bz := Below.more b21 (Below.more (Below.alloc (Below.refl _ _) (Nat.le_refl _) _) (Below.more (Below.alloc (Below.refl _ _) (Nat.le_refl _) _) b))
     go_wp2_with fail
     go_ret
     exact ⟨ret_bool (by first | rfl | simp), bz⟩
   ·by_cases g2 : Da < Dc
    ·have h0 : ¬ Da < Db := by omega
     have h0i : ¬ (Da : Int) < (Db : Int) := by omega
     have h0d : decide (Da < Db) = false := decide_eq_false h0
     have h0e : decide ((Da : Int) < (Db : Int)) = false := decide_eq_false h0i
     have h1 : Da < Dc := by omega
     have h1i : (Da : Int) < (Dc : Int) := by omega
     have h1d : decide (Da < Dc) = true := decide_eq_true h1
     have h1e : decide ((Da : Int) < (Dc : Int)) = true := decide_eq_true h1i
     obtain rfl : M = Dc := by omega
     clear hmx
     go_wp2_with fail
     obtain ⟨w16, hU⟩ : ∃ U, w15.alloc (.cells #[.slice p a.length e, .slice q b.length f, .slice r c.length g] 23) = U := ⟨_, rfl⟩
     have hrow := trms3 w15 p q r _ _ _ e f g a b c rfl rfl rfl hca hcb hcc LTa.out LTb.out LTc.out
     have b : Below w15.heap.size w15 (w15.alloc (.cells #[.slice p a.length e, .slice q b.length f, .slice r c.length g] 23)) := Below.alloc (Below.refl _ _) (Nat.le_refl _) _
     rw [hU] at hrow b ⊢
     have b16 := Below.more b15 b
     replace LTa := Lib.hid (LTa.out.below b)
     replace LTb := Lib.hid (LTb.out.below b)
     replace LTc := Lib.hid (LTc.out.below b)
     replace Lj := Lib.hid (Lj.out.below b)
     replace Lt := Lib.hid (Lt.out.below b)
     replace Ll := Lib.hid (Ll.out.below b)
     replace Ld := Lib.hid (Ld.out.below b)
     replace HG := Lib.hid (HB.out.below HG.out b)
     have Lm := Lib.hid hrow
     clear b hrow hU
     refine (CAll.out _ _ _ _ _ Ll.out Lm.out).mono ?_
     rintro e w17 ⟨rfl, b⟩
     have b17 := Below.more b16 b
     replace LTa := Lib.hid (LTa.out.below b)
     replace LTb := Lib.hid (LTb.out.below b)
     replace LTc := Lib.hid (LTc.out.below b)
     replace Lj := Lib.hid (Lj.out.below b)
     replace Lt := Lib.hid (Lt.out.below b)
     replace Ll := Lib.hid (Ll.out.below b)
     replace Ld := Lib.hid (Ld.out.below b)
     replace Lm := Lib.hid (Lm.out.below b)
     replace HG := Lib.hid (HB.out.below HG.out b)
     clear b
     go_wp2_with fail
     refine (CDT.out _ _ _ hct Lt.out HG.out).mono ?_
     rintro e w18 ⟨rfl, b⟩
     have b18 := Below.more b17 b
     replace LTa := Lib.hid (LTa.out.below b)
     replace LTb := Lib.hid (LTb.out.below b)
     replace LTc := Lib.hid (LTc.out.below b)
     replace Lj := Lib.hid (Lj.out.below b)
     replace Lt := Lib.hid (Lt.out.below b)
     replace Ll := Lib.hid (Ll.out.below b)
     replace Ld := Lib.hid (Ld.out.below b)
     replace Lm := Lib.hid (Lm.out.below b)
     replace HG := Lib.hid (HB.out.below HG.out b)
     clear b
     rw [hM]
     clear hM
     obtain ⟨ba, oa, hpa, ka0, _⟩ := nds_rule LTa.out HX.out
     subst hpa
     have bq := Below.refl w18.heap.size w18
     go_wp2_with fail
     refine (CAR.out _ HG.out).mono ?_
     rintro e w19 ⟨rfl, b⟩
     have b19 := Below.more b18 b
     replace LTa := Lib.hid (LTa.out.below b)
     replace LTb := Lib.hid (LTb.out.below b)
     replace LTc := Lib.hid (LTc.out.below b)
     replace Lj := Lib.hid (Lj.out.below b)
     replace Lt := Lib.hid (Lt.out.below b)
     replace Ll := Lib.hid (Ll.out.below b)
     replace Ld := Lib.hid (Ld.out.below b)
     replace Lm := Lib.hid (Lm.out.below b)
     replace HG := Lib.hid (HB.out.below HG.out b)
     clear b
     clear bq ka0
     go_wp2_with fail
     obtain ⟨w20, hU⟩ : ∃ U, w19.alloc (.cells #[.slice (some ⟨ba, oa, none⟩) a.length e, .slice q b.length f] 23) = U := ⟨_, rfl⟩
     have hrow := trms2 w19 (some ⟨ba, oa, none⟩) q _ _ e f a b rfl rfl hca hcb LTa.out LTb.out
     have b : Below w19.heap.size w19 (w19.alloc (.cells #[.slice (some ⟨ba, oa, none⟩) a.length e, .slice q b.length f] 23)) := Below.alloc (Below.refl _ _) (Nat.le_refl _) _
     rw [hU] at hrow b ⊢
     have b20 := Below.more b19 b
     replace LTa := Lib.hid (LTa.out.below b)
     replace LTb := Lib.hid (LTb.out.below b)
     replace LTc := Lib.hid (LTc.out.below b)
     replace Lj := Lib.hid (Lj.out.below b)
     replace Lt := Lib.hid (Lt.out.below b)
     replace Ll := Lib.hid (Ll.out.below b)
     replace Ld := Lib.hid (Ld.out.below b)
     replace Lm := Lib.hid (Lm.out.below b)
     replace HG := Lib.hid (HB.out.below HG.out b)
     have Ln := Lib.hid hrow
     clear b hrow hU
     refine (CJ2.out _ _ Ln.out HG.out).mono ?_
     rintro e w21 ⟨⟨px, cx, rfl, hcx, lx⟩, b⟩
     have b21 := Below.more b20 b
     replace LTa := Lib.hid (LTa.out.below b)
     replace LTb := Lib.hid (LTb.out.below b)
     replace LTc := Lib.hid (LTc.out.below b)
     replace Lj := Lib.hid (Lj.out.below b)
     replace Lt := Lib.hid (Lt.out.below b)
     replace Ll := Lib.hid (Ll.out.below b)
     replace Ld := Lib.hid (Ld.out.below b)
     replace Lm := Lib.hid (Lm.out.below b)
     replace Ln := Lib.hid (Ln.out.below b)
     replace HG := Lib.hid (HB.out.below HG.out b)
     have Lx := Lib.hid lx
     clear b lx
     rw [HL2.out]
     go_wp2_with fail
     refine (ints2 w21 _ _).mono ?_
     rintro e w9 ⟨rfl, b⟩
     have bz := Below.more b21 (Below.more (Below.alloc (Below.refl _ _) (Nat.le_refl _) _) (Below.more (Below.alloc (Below.refl _ _) (Nat.le_refl _) _) b))
     go_wp2_with fail
     go_ret
     exact ⟨ret_bool (by first | rfl | simp), bz⟩
    ·have h0 : ¬ Da < Db := by omega
     have h0i : ¬ (Da : Int) < (Db : Int) := by omega
     have h0d : decide (Da < Db) = false := decide_eq_false h0
     have h0e : decide ((Da : Int) < (Db : Int)) = false := decide_eq_false h0i
     have h1 : ¬ Da < Dc := by omega
     have h1i : ¬ (Da : Int) < (Dc : Int) := by omega
     have h1d : decide (Da < Dc) = false := decide_eq_false h1
     have h1e : decide ((Da : Int) < (Dc : Int)) = false := decide_eq_false h1i
     obtain rfl : M = Da := by omega
     clear hmx
     go_wp2_with fail
     obtain ⟨w16, hU⟩ : ∃ U, w15.alloc (.cells #[.slice p a.length e, .slice q b.length f, .slice r c.length g] 23) = U := ⟨_, rfl⟩
     have hrow := trms3 w15 p q r _ _ _ e f g a b c rfl rfl rfl hca hcb hcc LTa.out LTb.out LTc.out
     have b : Below w15.heap.size w15 (w15.alloc (.cells #[.slice p a.length e, .slice q b.length f, .slice r c.length g] 23)) := Below.alloc (Below.refl _ _) (Nat.le_refl _) _
     rw [hU] at hrow b ⊢
     have b16 := Below.more b15 b
     replace LTa := Lib.hid (LTa.out.below b)
     replace LTb := Lib.hid (LTb.out.below b)
     replace LTc := Lib.hid (LTc.out.below b)
     replace Lj := Lib.hid (Lj.out.below b)
     replace Lt := Lib.hid (Lt.out.below b)
     replace Ll := Lib.hid (Ll.out.below b)
     replace Ld := Lib.hid (Ld.out.below b)
     replace HG := Lib.hid (HB.out.below HG.out b)
     have Lm := Lib.hid hrow
     clear b hrow hU
     refine (CAll.out _ _ _ _ _ Ll.out Lm.out).mono ?_
     rintro e w17 ⟨rfl, b⟩
     have b17 := Below.more b16 b
     replace LTa := Lib.hid (LTa.out.below b)
     replace LTb := Lib.hid (LTb.out.below b)
     replace LTc := Lib.hid (LTc.out.below b)
     replace Lj := Lib.hid (Lj.out.below b)
     replace Lt := Lib.hid (Lt.out.below b)
     replace Ll := Lib.hid (Ll.out.below b)
     replace Ld := Lib.hid (Ld.out.below b)
     replace Lm := Lib.hid (Lm.out.below b)
     replace HG := Lib.hid (HB.out.below HG.out b)
     clear b
     go_wp2_with fail
     refine (CDT.out _ _ _ hct Lt.out HG.out).mono ?_
     rintro e w18 ⟨rfl, b⟩
     have b18 := Below.more b17 b
     replace LTa := Lib.hid (LTa.out.below b)
     replace LTb := Lib.hid (LTb.out.below b)
     replace LTc := Lib.hid (LTc.out.below b)
     replace Lj := Lib.hid (Lj.out.below b)
     replace Lt := Lib.hid (Lt.out.below b)
     replace Ll := Lib.hid (Ll.out.below b)
     replace Ld := Lib.hid (Ld.out.below b)
     replace Lm := Lib.hid (Lm.out.below b)
     replace HG := Lib.hid (HB.out.below HG.out b)
     clear b
     rw [hM]
     clear hM
     obtain ⟨ba, oa, hpa, ka0, _⟩ := nds_rule LTa.out HX.out
     subst hpa
     have bq := Below.refl w18.heap.size w18
     go_wp2_with fail
     refine (CAR.out _ HG.out).mono ?_
     rintro e w19 ⟨rfl, b⟩
     have b19 := Below.more b18 b
     replace LTa := Lib.hid (LTa.out.below b)
     replace LTb := Lib.hid (LTb.out.below b)
     replace LTc := Lib.hid (LTc.out.below b)
     replace Lj := Lib.hid (Lj.out.below b)
     replace Lt := Lib.hid (Lt.out.below b)
     replace Ll := Lib.hid (Ll.out.below b)
     replace Ld := Lib.hid (Ld.out.below b)
     replace Lm := Lib.hid (Lm.out.below b)
     replace HG := Lib.hid (HB.out.below HG.out b)
     clear b
     clear bq ka0
     go_wp2_with fail
     obtain ⟨w20, hU⟩ : ∃ U, w19.alloc (.cells #[.slice (some ⟨ba, oa, none⟩) a.length e, .slice q b.length f] 23) = U := ⟨_, rfl⟩
     have hrow := trms2 w19 (some ⟨ba, oa, none⟩) q _ _ e f a b rfl rfl hca hcb LTa.out LTb.out
     have b : Below w19.heap.size w19 (w19.alloc (.cells #[.slice (some ⟨ba, oa, none⟩) a.length e, .slice q b.length f] 23)) := Below.alloc (Below.refl _ _) (Nat.le_refl _) _
     rw [hU] at hrow b ⊢
     have b20 := Below.more b19 b
     replace LTa := Lib.hid (LTa.out.below b)
     replace LTb := Lib.hid (LTb.out.below b)
     replace LTc := Lib.hid (LTc.out.below b)
     replace Lj := Lib.hid (Lj.out.below b)
     replace Lt := Lib.hid (Lt.out.below b)
     replace Ll := Lib.hid (Ll.out.below b)
     replace Ld := Lib.hid (Ld.out.below b)
     replace Lm := Lib.hid (Lm.out.below b)
     replace HG := Lib.hid (HB.out.below HG.out b)
     have Ln := Lib.hid hrow
     clear b hrow hU
     refine (CJ2.out _ _ Ln.out HG.out).mono ?_
     rintro e w21 ⟨⟨px, cx, rfl, hcx, lx⟩, b⟩
     have b21 := Below.more b20 b
     replace LTa := Lib.hid (LTa.out.below b)
     replace LTb := Lib.hid (LTb.out.below b)
     replace LTc := Lib.hid (LTc.out.below b)
     replace Lj := Lib.hid (Lj.out.below b)
     replace Lt := Lib.hid (Lt.out.below b)
     replace Ll := Lib.hid (Ll.out.below b)
     replace Ld := Lib.hid (Ld.out.below b)
     replace Lm := Lib.hid (Lm.out.below b)
     replace Ln := Lib.hid (Ln.out.below b)
     replace HG := Lib.hid (HB.out.below HG.out b)
     have Lx := Lib.hid lx
     clear b lx
     rw [HL2.out]
     go_wp2_with fail
     refine (ints2 w21 _ _).mono ?_
     rintro e w9 ⟨rfl, b⟩
     have bz := Below.more b21 (Below.more (Below.alloc (Below.refl _ _) (Nat.le_refl _) _) (Below.more (Below.alloc (Below.refl _ _) (Nat.le_refl _) _) b))
     go_wp2_with fail
     go_ret
     exact ⟨ret_bool (by first | rfl | simp), bz⟩
theorem parts10_any (H : TermC G) (p : Option Addr) (e : Nat) (a : List Nd) (q : Option Addr) (f : Nat) (b : List Nd) (r : Option Addr) (g : Nat) (c : List Nd) (w : World) (hca : a.length ≤ e) (hna : a.length ≤ 4611686018427387904) (HRa : Hid (∀ x ∈ a, RgN x)) (hTa : Nds w p a) (hcb : b.length ≤ f) (hnb : b.length ≤ 4611686018427387904) (HRb : Hid (∀ x ∈ b, RgN x)) (hTb : Nds w q b) (hcc : c.length ≤ g) (hnc : c.length ≤ 4611686018427387904) (HRc : Hid (∀ x ∈ c, RgN x)) (hTc : Nds w r c) (hg : G w) : Calls Tryz.prog 4 #[.slice p a.length e, .slice q b.length f, .slice r c.length g] w (GiveB w true) := by
 cases hsa : smallT a with
 | false => exact parts10_0 H p e a q f b r g c w hca hna HRa hTa hcb hnb HRb hTb hcc hnc HRc hTc hg hsa
 | true =>
  cases hsb : smallT b with
  | false => exact parts10_1 H p e a q f b r g c w hca hna HRa hTa hcb hnb HRb hTb hcc hnc HRc hTc hg hsa hsb
  | true =>
   cases hsc : smallT c with
   | false => exact parts10_2 H p e a q f b r g c w hca hna HRa hTa hcb hnb HRb hTb hcc hnc HRc hTc hg hsa hsb hsc
   | true =>
    cases hfa : formB a with
    | false => exact parts10_3 H p e a q f b r g c w hca hna HRa hTa hcb hnb HRb hTb hcc hnc HRc hTc hg hsa hsb hsc hfa
    | true =>
     cases hfb : formB b with
     | false => exact parts10_4 H p e a q f b r g c w hca hna HRa hTa hcb hnb HRb hTb hcc hnc HRc hTc hg hsa hsb hsc hfa hfb
     | true =>
      cases hfc : formB c with
      | false => exact parts10_5 H p e a q f b r g c w hca hna HRa hTa hcb hnb HRb hTb hcc hnc HRc hTc hg hsa hsb hsc hfa hfb hfc
      | true =>
       exact parts10_main H p e a q f b r g c w hca hna HRa hTa hcb hnb HRb hTb hcc hnc HRc hTc hg hsa hsb hsc hfa hfb hfc
end Go.Proofs.YtdeinhkdphgfaaaGreatDoor
