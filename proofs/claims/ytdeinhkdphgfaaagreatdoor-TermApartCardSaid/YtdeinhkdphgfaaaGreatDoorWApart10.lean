/- TermApart: unlike terms that may be have unlike prints; a term that may not be has none, or too long a one, or is too deep. -/
import Derived.Test.YtdeinhkdphgfaaaGreatDoorFixT
namespace Go.Proofs.YtdeinhkdphgfaaaGreatDoor
open Go.RowKit
set_option linter.unusedSimpArgs false
set_option linter.unusedVariables false
open Tm (Nd Tr arN arI formB joinT printT checkT depthT argsT plainN)
variable {G : World → Prop}
set_option maxRecDepth 100000 in
set_option maxHeartbeats 4000000 in
theorem apart10_a (H : TermC G) (p : Option Addr) (c : Nat) (a : List Nd) (q : Option Addr) (d : Nat) (b : List Nd) (w : World) (hca : a.length ≤ c) (hna : a.length ≤ 4611686018427387904) (HRa : Hid (∀ x ∈ a, RgN x)) (hTa : Nds w p a) (hcb : b.length ≤ d) (hnb : b.length ≤ 4611686018427387904) (HRb : Hid (∀ x ∈ b, RgN x)) (hTb : Nds w q b) (hg : G w) (hsa : smallT a = false) : Calls Tryz.prog 5 #[.slice p a.length c, .slice q b.length d] w (GiveB w true) := by
 have HB := Lib.hid H; have HG := Lib.hid hg; clear H hg
 have CSa : Hid (∀ V, Nds V p a → Calls Tryz.prog 8 #[.slice p a.length c] V (GiveB V false)) := Lib.hid fun V h => by
  have k := rtsmall_any p c a V hna h
  rw [hsa] at k
  exact k
 have LTa := Lib.hid hTa; have LTb := Lib.hid hTb
 clear hTa hTb hsa
 go_enter Tryz.func5, Tryz.ntmps5
 have b0 := Below.refl w.heap.size w
 go_wp2_with fail
 refine (fixed10_any HB.out _ HG.out).mono ?_
 rintro e w1 ⟨rfl, b⟩
 have b1 := Below.more b0 b
 replace LTa := Lib.hid (LTa.out.below b)
 replace LTb := Lib.hid (LTb.out.below b)
 replace HG := Lib.hid (HB.out.below HG.out b)
 clear b
 go_wp2_with fail
 refine (CSa.out _ LTa.out).mono ?_
 rintro e w2 ⟨rfl, b⟩
 have b2 := Below.more b1 b
 replace LTa := Lib.hid (LTa.out.below b)
 replace LTb := Lib.hid (LTb.out.below b)
 replace HG := Lib.hid (HB.out.below HG.out b)
 clear b
 go_wp2_with fail
 refine (fixed10_any HB.out _ HG.out).mono ?_
 rintro e w3 ⟨rfl, b⟩
 have b3 := Below.more b2 b
 replace LTa := Lib.hid (LTa.out.below b)
 replace LTb := Lib.hid (LTb.out.below b)
 replace HG := Lib.hid (HB.out.below HG.out b)
 clear b
 go_wp2_with fail
 go_ret
 exact ⟨ret_bool (by first | rfl | simp), b3⟩
set_option maxRecDepth 100000 in
set_option maxHeartbeats 4000000 in
theorem apart10_b (H : TermC G) (p : Option Addr) (c : Nat) (a : List Nd) (q : Option Addr) (d : Nat) (b : List Nd) (w : World) (hca : a.length ≤ c) (hna : a.length ≤ 4611686018427387904) (HRa : Hid (∀ x ∈ a, RgN x)) (hTa : Nds w p a) (hcb : b.length ≤ d) (hnb : b.length ≤ 4611686018427387904) (HRb : Hid (∀ x ∈ b, RgN x)) (hTb : Nds w q b) (hg : G w) (hsa : smallT a = true) (hsb : smallT b = false) : Calls Tryz.prog 5 #[.slice p a.length c, .slice q b.length d] w (GiveB w true) := by
 have HB := Lib.hid H; have HG := Lib.hid hg; clear H hg
 have CSa : Hid (∀ V, Nds V p a → Calls Tryz.prog 8 #[.slice p a.length c] V (GiveB V true)) := Lib.hid fun V h => by
  have k := rtsmall_any p c a V hna h
  rw [hsa] at k
  exact k
 have CSb : Hid (∀ V, Nds V q b → Calls Tryz.prog 8 #[.slice q b.length d] V (GiveB V false)) := Lib.hid fun V h => by
  have k := rtsmall_any q d b V hnb h
  rw [hsb] at k
  exact k
 have LTa := Lib.hid hTa; have LTb := Lib.hid hTb
 clear hTa hTb hsa hsb
 go_enter Tryz.func5, Tryz.ntmps5
 have b0 := Below.refl w.heap.size w
 go_wp2_with fail
 refine (fixed10_any HB.out _ HG.out).mono ?_
 rintro e w1 ⟨rfl, b⟩
 have b1 := Below.more b0 b
 replace LTa := Lib.hid (LTa.out.below b)
 replace LTb := Lib.hid (LTb.out.below b)
 replace HG := Lib.hid (HB.out.below HG.out b)
 clear b
 go_wp2_with fail
 refine (CSa.out _ LTa.out).mono ?_
 rintro e w2 ⟨rfl, b⟩
 have b2 := Below.more b1 b
 replace LTa := Lib.hid (LTa.out.below b)
 replace LTb := Lib.hid (LTb.out.below b)
 replace HG := Lib.hid (HB.out.below HG.out b)
 clear b
 go_wp2_with fail
 refine (CSb.out _ LTb.out).mono ?_
 rintro e w3 ⟨rfl, b⟩
 have b3 := Below.more b2 b
 replace LTa := Lib.hid (LTa.out.below b)
 replace LTb := Lib.hid (LTb.out.below b)
 replace HG := Lib.hid (HB.out.below HG.out b)
 clear b
 go_wp2_with fail
 refine (fixed10_any HB.out _ HG.out).mono ?_
 rintro e w4 ⟨rfl, b⟩
 have b4 := Below.more b3 b
 replace LTa := Lib.hid (LTa.out.below b)
 replace LTb := Lib.hid (LTb.out.below b)
 replace HG := Lib.hid (HB.out.below HG.out b)
 clear b
 go_wp2_with fail
 go_ret
 exact ⟨ret_bool (by first | rfl | simp), b4⟩
set_option maxRecDepth 100000 in
set_option maxHeartbeats 4000000 in
theorem apart10_n (H : TermC G) (p : Option Addr) (c : Nat) (a : List Nd) (q : Option Addr) (d : Nat) (b : List Nd) (w : World) (hca : a.length ≤ c) (hna : a.length ≤ 4611686018427387904) (HRa : Hid (∀ x ∈ a, RgN x)) (hTa : Nds w p a) (hcb : b.length ≤ d) (hnb : b.length ≤ 4611686018427387904) (HRb : Hid (∀ x ∈ b, RgN x)) (hTb : Nds w q b) (hg : G w) (hsa : smallT a = true) (hsb : smallT b = true) (h1 : printT a = []) : Calls Tryz.prog 5 #[.slice p a.length c, .slice q b.length d] w (GiveB w true) := by
 have hza := small_sz hsa HRa.out; have hzb := small_sz hsb HRb.out
 have hla := small_len hsa; have hlb := small_len hsb
 have h2a : a.length ≤ 2000 := by omega
 have h2b : b.length ≤ 2000 := by omega
 have cp := fun V (h : Nds V p a) (g : G V) => H.print p c a V hca h2a hza h g
 have cq := fun V (h : Nds V q b) (g : G V) => H.print q d b V hcb h2b hzb h g
 have ck := fun V (h : Nds V p a) (g : G V) => H.check p c a V hca h2a hza h g
 have cd := fun V (h : Nds V p a) (g : G V) => H.depth p c a V hca h2a hza h g
 have cs := fun V (h : Nds V p a) (k : Nds V q b) => rtsame_any p q c d a b V (by omega) (by omega) h k
 have hK : checkT a = 100 := by unfold checkT; rw [if_pos (.inl h1)]
 rw [hK] at ck
 rw [h1] at cp
 generalize printT b = Q at *
 generalize depthT a = D at *
 have HB := Lib.hid H; have HG := Lib.hid hg; clear H hg
 have CSa : Hid (∀ V, Nds V p a → Calls Tryz.prog 8 #[.slice p a.length c] V (GiveB V true)) := Lib.hid fun V h => by
  have k := rtsmall_any p c a V hna h
  rw [hsa] at k
  exact k
 have CSb : Hid (∀ V, Nds V q b → Calls Tryz.prog 8 #[.slice q b.length d] V (GiveB V true)) := Lib.hid fun V h => by
  have k := rtsmall_any q d b V hnb h
  rw [hsb] at k
  exact k
 have LTa := Lib.hid hTa; have LTb := Lib.hid hTb
 have CP := Lib.hid cp; have CQ := Lib.hid cq; have CK := Lib.hid ck; have CD := Lib.hid cd; have CS := Lib.hid cs
 clear hTa hTb cp cq ck cd cs hza hzb h2a h2b hla hlb hsa hsb
 clear CD CS h1 hK
 go_enter Tryz.func5, Tryz.ntmps5
 have b0 := Below.refl w.heap.size w
 go_wp2_with fail
 refine (fixed10_any HB.out _ HG.out).mono ?_
 rintro e w1 ⟨rfl, b⟩
 have b1 := Below.more b0 b
 replace LTa := Lib.hid (LTa.out.below b)
 replace LTb := Lib.hid (LTb.out.below b)
 replace HG := Lib.hid (HB.out.below HG.out b)
 clear b
 go_wp2_with fail
 refine (CSa.out _ LTa.out).mono ?_
 rintro e w2 ⟨rfl, b⟩
 have b2 := Below.more b1 b
 replace LTa := Lib.hid (LTa.out.below b)
 replace LTb := Lib.hid (LTb.out.below b)
 replace HG := Lib.hid (HB.out.below HG.out b)
 clear b
 go_wp2_with fail
 refine (CSb.out _ LTb.out).mono ?_
 rintro e w3 ⟨rfl, b⟩
 have b3 := Below.more b2 b
 replace LTa := Lib.hid (LTa.out.below b)
 replace LTb := Lib.hid (LTb.out.below b)
 replace HG := Lib.hid (HB.out.below HG.out b)
 clear b
 go_wp2_with fail
 refine (CP.out _ LTa.out HG.out).mono ?_
 rintro e w4 ⟨rfl, b⟩
 have b4 := Below.more b3 b
 replace LTa := Lib.hid (LTa.out.below b)
 replace LTb := Lib.hid (LTb.out.below b)
 replace HG := Lib.hid (HB.out.below HG.out b)
 clear b
 go_wp2_with fail
 refine (CQ.out _ LTb.out HG.out).mono ?_
 rintro e w5 ⟨rfl, b⟩
 have b5 := Below.more b4 b
 replace LTa := Lib.hid (LTa.out.below b)
 replace LTb := Lib.hid (LTb.out.below b)
 replace HG := Lib.hid (HB.out.below HG.out b)
 clear b
 go_wp2_with fail
 refine (CK.out _ LTa.out HG.out).mono ?_
 rintro e w6 ⟨rfl, b⟩
 have b6 := Below.more b5 b
 replace LTa := Lib.hid (LTa.out.below b)
 replace LTb := Lib.hid (LTb.out.below b)
 replace HG := Lib.hid (HB.out.below HG.out b)
 clear b
 go_wp2_with fail
 go_ret
 exact ⟨ret_bool (by first | rfl | simp), b6⟩
set_option maxRecDepth 100000 in
set_option maxHeartbeats 4000000 in
theorem apart10_ln (H : TermC G) (p : Option Addr) (c : Nat) (a : List Nd) (q : Option Addr) (d : Nat) (b : List Nd) (w : World) (hca : a.length ≤ c) (hna : a.length ≤ 4611686018427387904) (HRa : Hid (∀ x ∈ a, RgN x)) (hTa : Nds w p a) (hcb : b.length ≤ d) (hnb : b.length ≤ 4611686018427387904) (HRb : Hid (∀ x ∈ b, RgN x)) (hTb : Nds w q b) (hg : G w) (hsa : smallT a = true) (hsb : smallT b = true) (h1 : ¬ printT a = []) (h2 : 20000 < (printT a).length) (h4 : printT b = []) : Calls Tryz.prog 5 #[.slice p a.length c, .slice q b.length d] w (GiveB w true) := by
 have hza := small_sz hsa HRa.out; have hzb := small_sz hsb HRb.out
 have hla := small_len hsa; have hlb := small_len hsb
 have h2a : a.length ≤ 2000 := by omega
 have h2b : b.length ≤ 2000 := by omega
 have cp := fun V (h : Nds V p a) (g : G V) => H.print p c a V hca h2a hza h g
 have cq := fun V (h : Nds V q b) (g : G V) => H.print q d b V hcb h2b hzb h g
 have ck := fun V (h : Nds V p a) (g : G V) => H.check p c a V hca h2a hza h g
 have cd := fun V (h : Nds V p a) (g : G V) => H.depth p c a V hca h2a hza h g
 have cs := fun V (h : Nds V p a) (k : Nds V q b) => rtsame_any p q c d a b V (by omega) (by omega) h k
 have hK : checkT a = 100 := by unfold checkT; rw [if_pos (.inr (.inl h2))]
 rw [hK] at ck
 clear hK
 rw [h4] at cq
 clear h4
 generalize printT a = P at *
 generalize depthT a = D at *
 have h1b : (P == []) = false := beq_false_of_ne h1
 have e1 : (P != []) = true := by rw [bne, h1b]; rfl
 have h2i : ¬ ((P.length : Int) ≤ 20000) := by omega
 have HB := Lib.hid H; have HG := Lib.hid hg; clear H hg
 have CSa : Hid (∀ V, Nds V p a → Calls Tryz.prog 8 #[.slice p a.length c] V (GiveB V true)) := Lib.hid fun V h => by
  have k := rtsmall_any p c a V hna h
  rw [hsa] at k
  exact k
 have CSb : Hid (∀ V, Nds V q b → Calls Tryz.prog 8 #[.slice q b.length d] V (GiveB V true)) := Lib.hid fun V h => by
  have k := rtsmall_any q d b V hnb h
  rw [hsb] at k
  exact k
 have LTa := Lib.hid hTa; have LTb := Lib.hid hTb
 have CP := Lib.hid cp; have CQ := Lib.hid cq; have CK := Lib.hid ck; have CD := Lib.hid cd; have CS := Lib.hid cs
 clear hTa hTb cp cq ck cd cs hza hzb h2a h2b hla hlb hsa hsb
 clear CS
 go_enter Tryz.func5, Tryz.ntmps5
 have b0 := Below.refl w.heap.size w
 go_wp2_with fail
 refine (fixed10_any HB.out _ HG.out).mono ?_
 rintro e w1 ⟨rfl, b⟩
 have b1 := Below.more b0 b
 replace LTa := Lib.hid (LTa.out.below b)
 replace LTb := Lib.hid (LTb.out.below b)
 replace HG := Lib.hid (HB.out.below HG.out b)
 clear b
 go_wp2_with fail
 refine (CSa.out _ LTa.out).mono ?_
 rintro e w2 ⟨rfl, b⟩
 have b2 := Below.more b1 b
 replace LTa := Lib.hid (LTa.out.below b)
 replace LTb := Lib.hid (LTb.out.below b)
 replace HG := Lib.hid (HB.out.below HG.out b)
 clear b
 go_wp2_with fail
 refine (CSb.out _ LTb.out).mono ?_
 rintro e w3 ⟨rfl, b⟩
 have b3 := Below.more b2 b
 replace LTa := Lib.hid (LTa.out.below b)
 replace LTb := Lib.hid (LTb.out.below b)
 replace HG := Lib.hid (HB.out.below HG.out b)
 clear b
 go_wp2_with fail
 refine (CP.out _ LTa.out HG.out).mono ?_
 rintro e w4 ⟨rfl, b⟩
 have b4 := Below.more b3 b
 replace LTa := Lib.hid (LTa.out.below b)
 replace LTb := Lib.hid (LTb.out.below b)
 replace HG := Lib.hid (HB.out.below HG.out b)
 clear b
 go_wp2_with fail
 refine (CQ.out _ LTb.out HG.out).mono ?_
 rintro e w5 ⟨rfl, b⟩
 have b5 := Below.more b4 b
 replace LTa := Lib.hid (LTa.out.below b)
 replace LTb := Lib.hid (LTb.out.below b)
 replace HG := Lib.hid (HB.out.below HG.out b)
 clear b
 go_wp2_with fail
 refine (CK.out _ LTa.out HG.out).mono ?_
 rintro e w6 ⟨rfl, b⟩
 have b6 := Below.more b5 b
 replace LTa := Lib.hid (LTa.out.below b)
 replace LTb := Lib.hid (LTb.out.below b)
 replace HG := Lib.hid (HB.out.below HG.out b)
 clear b
 go_wp2_with fail
 go_ret
 exact ⟨ret_bool (by first | rfl | simp), b6⟩
set_option maxRecDepth 100000 in
set_option maxHeartbeats 4000000 in
theorem apart10_ls (H : TermC G) (p : Option Addr) (c : Nat) (a : List Nd) (q : Option Addr) (d : Nat) (b : List Nd) (w : World) (hca : a.length ≤ c) (hna : a.length ≤ 4611686018427387904) (HRa : Hid (∀ x ∈ a, RgN x)) (hTa : Nds w p a) (hcb : b.length ≤ d) (hnb : b.length ≤ 4611686018427387904) (HRb : Hid (∀ x ∈ b, RgN x)) (hTb : Nds w q b) (hg : G w) (hsa : smallT a = true) (hsb : smallT b = true) (h1 : ¬ printT a = []) (h2 : 20000 < (printT a).length) (h4 : ¬ printT b = []) (h5 : a = b) : Calls Tryz.prog 5 #[.slice p a.length c, .slice q b.length d] w (GiveB w true) := by
 have hza := small_sz hsa HRa.out; have hzb := small_sz hsb HRb.out
 have hla := small_len hsa; have hlb := small_len hsb
 have h2a : a.length ≤ 2000 := by omega
 have h2b : b.length ≤ 2000 := by omega
 have cp := fun V (h : Nds V p a) (g : G V) => H.print p c a V hca h2a hza h g
 have cq := fun V (h : Nds V q b) (g : G V) => H.print q d b V hcb h2b hzb h g
 have ck := fun V (h : Nds V p a) (g : G V) => H.check p c a V hca h2a hza h g
 have cd := fun V (h : Nds V p a) (g : G V) => H.depth p c a V hca h2a hza h g
 have cs := fun V (h : Nds V p a) (k : Nds V q b) => rtsame_any p q c d a b V (by omega) (by omega) h k
 have hK : checkT a = 100 := by unfold checkT; rw [if_pos (.inr (.inl h2))]
 rw [hK] at ck
 clear hK
 rw [decide_eq_true h5] at cs
 rw [show printT b = printT a by rw [h5]] at cq h4
 clear h5
 generalize printT a = P at *
 generalize depthT a = D at *
 have h1b : (P == []) = false := beq_false_of_ne h1
 have e1 : (P != []) = true := by rw [bne, h1b]; rfl
 have h2i : ¬ ((P.length : Int) ≤ 20000) := by omega
 have HB := Lib.hid H; have HG := Lib.hid hg; clear H hg
 have CSa : Hid (∀ V, Nds V p a → Calls Tryz.prog 8 #[.slice p a.length c] V (GiveB V true)) := Lib.hid fun V h => by
  have k := rtsmall_any p c a V hna h
  rw [hsa] at k
  exact k
 have CSb : Hid (∀ V, Nds V q b → Calls Tryz.prog 8 #[.slice q b.length d] V (GiveB V true)) := Lib.hid fun V h => by
  have k := rtsmall_any q d b V hnb h
  rw [hsb] at k
  exact k
 have LTa := Lib.hid hTa; have LTb := Lib.hid hTb
 have CP := Lib.hid cp; have CQ := Lib.hid cq; have CK := Lib.hid ck; have CD := Lib.hid cd; have CS := Lib.hid cs
 clear hTa hTb cp cq ck cd cs hza hzb h2a h2b hla hlb hsa hsb
 clear h4
 go_enter Tryz.func5, Tryz.ntmps5
 have b0 := Below.refl w.heap.size w
 go_wp2_with fail
 refine (fixed10_any HB.out _ HG.out).mono ?_
 rintro e w1 ⟨rfl, b⟩
 have b1 := Below.more b0 b
 replace LTa := Lib.hid (LTa.out.below b)
 replace LTb := Lib.hid (LTb.out.below b)
 replace HG := Lib.hid (HB.out.below HG.out b)
 clear b
 go_wp2_with fail
 refine (CSa.out _ LTa.out).mono ?_
 rintro e w2 ⟨rfl, b⟩
 have b2 := Below.more b1 b
 replace LTa := Lib.hid (LTa.out.below b)
 replace LTb := Lib.hid (LTb.out.below b)
 replace HG := Lib.hid (HB.out.below HG.out b)
 clear b
 go_wp2_with fail
 refine (CSb.out _ LTb.out).mono ?_
 rintro e w3 ⟨rfl, b⟩
 have b3 := Below.more b2 b
 replace LTa := Lib.hid (LTa.out.below b)
 replace LTb := Lib.hid (LTb.out.below b)
 replace HG := Lib.hid (HB.out.below HG.out b)
 clear b
 go_wp2_with fail
 refine (CP.out _ LTa.out HG.out).mono ?_
 rintro e w4 ⟨rfl, b⟩
 have b4 := Below.more b3 b
 replace LTa := Lib.hid (LTa.out.below b)
 replace LTb := Lib.hid (LTb.out.below b)
 replace HG := Lib.hid (HB.out.below HG.out b)
 clear b
 go_wp2_with fail
 refine (CQ.out _ LTb.out HG.out).mono ?_
 rintro e w5 ⟨rfl, b⟩
 have b5 := Below.more b4 b
 replace LTa := Lib.hid (LTa.out.below b)
 replace LTb := Lib.hid (LTb.out.below b)
 replace HG := Lib.hid (HB.out.below HG.out b)
 clear b
 go_wp2_with fail
 refine (CK.out _ LTa.out HG.out).mono ?_
 rintro e w6 ⟨rfl, b⟩
 have b6 := Below.more b5 b
 replace LTa := Lib.hid (LTa.out.below b)
 replace LTb := Lib.hid (LTb.out.below b)
 replace HG := Lib.hid (HB.out.below HG.out b)
 clear b
 go_wp2_with fail
 refine (CS.out _ LTa.out LTb.out).mono ?_
 rintro e w7 ⟨rfl, b⟩
 have b7 := Below.more b6 b
 replace LTa := Lib.hid (LTa.out.below b)
 replace LTb := Lib.hid (LTb.out.below b)
 replace HG := Lib.hid (HB.out.below HG.out b)
 clear b
 go_wp2_with fail
 go_ret
 exact ⟨ret_bool (by first | rfl | simp), b7⟩
set_option maxRecDepth 100000 in
set_option maxHeartbeats 4000000 in
theorem apart10_lu (H : TermC G) (p : Option Addr) (c : Nat) (a : List Nd) (q : Option Addr) (d : Nat) (b : List Nd) (w : World) (hca : a.length ≤ c) (hna : a.length ≤ 4611686018427387904) (HRa : Hid (∀ x ∈ a, RgN x)) (hTa : Nds w p a) (hcb : b.length ≤ d) (hnb : b.length ≤ 4611686018427387904) (HRb : Hid (∀ x ∈ b, RgN x)) (hTb : Nds w q b) (hg : G w) (hsa : smallT a = true) (hsb : smallT b = true) (h1 : ¬ printT a = []) (h2 : 20000 < (printT a).length) (h4 : ¬ printT b = []) (h5 : ¬ a = b) : Calls Tryz.prog 5 #[.slice p a.length c, .slice q b.length d] w (GiveB w true) := by
 have hza := small_sz hsa HRa.out; have hzb := small_sz hsb HRb.out
 have hla := small_len hsa; have hlb := small_len hsb
 have h2a : a.length ≤ 2000 := by omega
 have h2b : b.length ≤ 2000 := by omega
 have cp := fun V (h : Nds V p a) (g : G V) => H.print p c a V hca h2a hza h g
 have cq := fun V (h : Nds V q b) (g : G V) => H.print q d b V hcb h2b hzb h g
 have ck := fun V (h : Nds V p a) (g : G V) => H.check p c a V hca h2a hza h g
 have cd := fun V (h : Nds V p a) (g : G V) => H.depth p c a V hca h2a hza h g
 have cs := fun V (h : Nds V p a) (k : Nds V q b) => rtsame_any p q c d a b V (by omega) (by omega) h k
 have hK : checkT a = 100 := by unfold checkT; rw [if_pos (.inr (.inl h2))]
 rw [hK] at ck
 clear hK
 have h6 : ¬ printT a = printT b := fun e => h5 ((Tm.print_inj h1 h4).1 e)
 rw [decide_eq_false h5] at cs
 clear h5
 generalize printT a = P at *
 generalize printT b = Q at *
 generalize depthT a = D at *
 have h1b : (P == []) = false := beq_false_of_ne h1
 have e1 : (P != []) = true := by rw [bne, h1b]; rfl
 have h4b : (Q == []) = false := beq_false_of_ne h4
 have h6b : (P == Q) = false := beq_false_of_ne h6
 have h2i : ¬ ((P.length : Int) ≤ 20000) := by omega
 have HB := Lib.hid H; have HG := Lib.hid hg; clear H hg
 have CSa : Hid (∀ V, Nds V p a → Calls Tryz.prog 8 #[.slice p a.length c] V (GiveB V true)) := Lib.hid fun V h => by
  have k := rtsmall_any p c a V hna h
  rw [hsa] at k
  exact k
 have CSb : Hid (∀ V, Nds V q b → Calls Tryz.prog 8 #[.slice q b.length d] V (GiveB V true)) := Lib.hid fun V h => by
  have k := rtsmall_any q d b V hnb h
  rw [hsb] at k
  exact k
 have LTa := Lib.hid hTa; have LTb := Lib.hid hTb
 have CP := Lib.hid cp; have CQ := Lib.hid cq; have CK := Lib.hid ck; have CD := Lib.hid cd; have CS := Lib.hid cs
 clear hTa hTb cp cq ck cd cs hza hzb h2a h2b hla hlb hsa hsb
 clear hnb
 go_enter Tryz.func5, Tryz.ntmps5
 have b0 := Below.refl w.heap.size w
 go_wp2_with fail
 refine (fixed10_any HB.out _ HG.out).mono ?_
 rintro e w1 ⟨rfl, b⟩
 have b1 := Below.more b0 b
 replace LTa := Lib.hid (LTa.out.below b)
 replace LTb := Lib.hid (LTb.out.below b)
 replace HG := Lib.hid (HB.out.below HG.out b)
 clear b
 go_wp2_with fail
 refine (CSa.out _ LTa.out).mono ?_
 rintro e w2 ⟨rfl, b⟩
 have b2 := Below.more b1 b
 replace LTa := Lib.hid (LTa.out.below b)
 replace LTb := Lib.hid (LTb.out.below b)
 replace HG := Lib.hid (HB.out.below HG.out b)
 clear b
 go_wp2_with fail
 refine (CSb.out _ LTb.out).mono ?_
 rintro e w3 ⟨rfl, b⟩
 have b3 := Below.more b2 b
 replace LTa := Lib.hid (LTa.out.below b)
 replace LTb := Lib.hid (LTb.out.below b)
 replace HG := Lib.hid (HB.out.below HG.out b)
 clear b
 go_wp2_with fail
 refine (CP.out _ LTa.out HG.out).mono ?_
 rintro e w4 ⟨rfl, b⟩
 have b4 := Below.more b3 b
 replace LTa := Lib.hid (LTa.out.below b)
 replace LTb := Lib.hid (LTb.out.below b)
 replace HG := Lib.hid (HB.out.below HG.out b)
 clear b
 go_wp2_with fail
 refine (CQ.out _ LTb.out HG.out).mono ?_
 rintro e w5 ⟨rfl, b⟩
 have b5 := Below.more b4 b
 replace LTa := Lib.hid (LTa.out.below b)
 replace LTb := Lib.hid (LTb.out.below b)
 replace HG := Lib.hid (HB.out.below HG.out b)
 clear b
 go_wp2_with fail
 refine (CK.out _ LTa.out HG.out).mono ?_
 rintro e w6 ⟨rfl, b⟩
 have b6 := Below.more b5 b
 replace LTa := Lib.hid (LTa.out.below b)
 replace LTb := Lib.hid (LTb.out.below b)
 replace HG := Lib.hid (HB.out.below HG.out b)
 clear b
 go_wp2_with fail
 refine (CS.out _ LTa.out LTb.out).mono ?_
 rintro e w7 ⟨rfl, b⟩
 have b7 := Below.more b6 b
 replace LTa := Lib.hid (LTa.out.below b)
 replace LTb := Lib.hid (LTb.out.below b)
 replace HG := Lib.hid (HB.out.below HG.out b)
 clear b
 go_wp2_with fail
 go_ret
 exact ⟨ret_bool (by first | rfl | simp), b7⟩
set_option maxRecDepth 100000 in
set_option maxHeartbeats 4000000 in
theorem apart10_dn (H : TermC G) (p : Option Addr) (c : Nat) (a : List Nd) (q : Option Addr) (d : Nat) (b : List Nd) (w : World) (hca : a.length ≤ c) (hna : a.length ≤ 4611686018427387904) (HRa : Hid (∀ x ∈ a, RgN x)) (hTa : Nds w p a) (hcb : b.length ≤ d) (hnb : b.length ≤ 4611686018427387904) (HRb : Hid (∀ x ∈ b, RgN x)) (hTb : Nds w q b) (hg : G w) (hsa : smallT a = true) (hsb : smallT b = true) (h1 : ¬ printT a = []) (h2 : ¬ 20000 < (printT a).length) (h3 : 150 < depthT a) (h4 : printT b = []) : Calls Tryz.prog 5 #[.slice p a.length c, .slice q b.length d] w (GiveB w true) := by
 have hza := small_sz hsa HRa.out; have hzb := small_sz hsb HRb.out
 have hla := small_len hsa; have hlb := small_len hsb
 have h2a : a.length ≤ 2000 := by omega
 have h2b : b.length ≤ 2000 := by omega
 have cp := fun V (h : Nds V p a) (g : G V) => H.print p c a V hca h2a hza h g
 have cq := fun V (h : Nds V q b) (g : G V) => H.print q d b V hcb h2b hzb h g
 have ck := fun V (h : Nds V p a) (g : G V) => H.check p c a V hca h2a hza h g
 have cd := fun V (h : Nds V p a) (g : G V) => H.depth p c a V hca h2a hza h g
 have cs := fun V (h : Nds V p a) (k : Nds V q b) => rtsame_any p q c d a b V (by omega) (by omega) h k
 have hK : checkT a = 100 := by unfold checkT; rw [if_pos (.inr (.inr h3))]
 rw [hK] at ck
 clear hK
 rw [h4] at cq
 clear h4
 generalize printT a = P at *
 generalize depthT a = D at *
 have h1b : (P == []) = false := beq_false_of_ne h1
 have e1 : (P != []) = true := by rw [bne, h1b]; rfl
 have h2i : (P.length : Int) ≤ 20000 := by omega
 have h3i : ¬ ((D : Int) ≤ 150) := by omega
 have HB := Lib.hid H; have HG := Lib.hid hg; clear H hg
 have CSa : Hid (∀ V, Nds V p a → Calls Tryz.prog 8 #[.slice p a.length c] V (GiveB V true)) := Lib.hid fun V h => by
  have k := rtsmall_any p c a V hna h
  rw [hsa] at k
  exact k
 have CSb : Hid (∀ V, Nds V q b → Calls Tryz.prog 8 #[.slice q b.length d] V (GiveB V true)) := Lib.hid fun V h => by
  have k := rtsmall_any q d b V hnb h
  rw [hsb] at k
  exact k
 have LTa := Lib.hid hTa; have LTb := Lib.hid hTb
 have CP := Lib.hid cp; have CQ := Lib.hid cq; have CK := Lib.hid ck; have CD := Lib.hid cd; have CS := Lib.hid cs
 clear hTa hTb cp cq ck cd cs hza hzb h2a h2b hla hlb hsa hsb
 clear CS
 go_enter Tryz.func5, Tryz.ntmps5
 have b0 := Below.refl w.heap.size w
 go_wp2_with fail
 refine (fixed10_any HB.out _ HG.out).mono ?_
 rintro e w1 ⟨rfl, b⟩
 have b1 := Below.more b0 b
 replace LTa := Lib.hid (LTa.out.below b)
 replace LTb := Lib.hid (LTb.out.below b)
 replace HG := Lib.hid (HB.out.below HG.out b)
 clear b
 go_wp2_with fail
 refine (CSa.out _ LTa.out).mono ?_
 rintro e w2 ⟨rfl, b⟩
 have b2 := Below.more b1 b
 replace LTa := Lib.hid (LTa.out.below b)
 replace LTb := Lib.hid (LTb.out.below b)
 replace HG := Lib.hid (HB.out.below HG.out b)
 clear b
 go_wp2_with fail
 refine (CSb.out _ LTb.out).mono ?_
 rintro e w3 ⟨rfl, b⟩
 have b3 := Below.more b2 b
 replace LTa := Lib.hid (LTa.out.below b)
 replace LTb := Lib.hid (LTb.out.below b)
 replace HG := Lib.hid (HB.out.below HG.out b)
 clear b
 go_wp2_with fail
 refine (CP.out _ LTa.out HG.out).mono ?_
 rintro e w4 ⟨rfl, b⟩
 have b4 := Below.more b3 b
 replace LTa := Lib.hid (LTa.out.below b)
 replace LTb := Lib.hid (LTb.out.below b)
 replace HG := Lib.hid (HB.out.below HG.out b)
 clear b
 go_wp2_with fail
 refine (CQ.out _ LTb.out HG.out).mono ?_
 rintro e w5 ⟨rfl, b⟩
 have b5 := Below.more b4 b
 replace LTa := Lib.hid (LTa.out.below b)
 replace LTb := Lib.hid (LTb.out.below b)
 replace HG := Lib.hid (HB.out.below HG.out b)
 clear b
 go_wp2_with fail
 refine (CK.out _ LTa.out HG.out).mono ?_
 rintro e w6 ⟨rfl, b⟩
 have b6 := Below.more b5 b
 replace LTa := Lib.hid (LTa.out.below b)
 replace LTb := Lib.hid (LTb.out.below b)
 replace HG := Lib.hid (HB.out.below HG.out b)
 clear b
 go_wp2_with fail
 refine (CD.out _ LTa.out HG.out).mono ?_
 rintro e w7 ⟨rfl, b⟩
 have b7 := Below.more b6 b
 replace LTa := Lib.hid (LTa.out.below b)
 replace LTb := Lib.hid (LTb.out.below b)
 replace HG := Lib.hid (HB.out.below HG.out b)
 clear b
 go_wp2_with fail
 go_ret
 exact ⟨ret_bool (by first | rfl | simp), b7⟩
set_option maxRecDepth 100000 in
set_option maxHeartbeats 4000000 in
theorem apart10_ds (H : TermC G) (p : Option Addr) (c : Nat) (a : List Nd) (q : Option Addr) (d : Nat) (b : List Nd) (w : World) (hca : a.length ≤ c) (hna : a.length ≤ 4611686018427387904) (HRa : Hid (∀ x ∈ a, RgN x)) (hTa : Nds w p a) (hcb : b.length ≤ d) (hnb : b.length ≤ 4611686018427387904) (HRb : Hid (∀ x ∈ b, RgN x)) (hTb : Nds w q b) (hg : G w) (hsa : smallT a = true) (hsb : smallT b = true) (h1 : ¬ printT a = []) (h2 : ¬ 20000 < (printT a).length) (h3 : 150 < depthT a) (h4 : ¬ printT b = []) (h5 : a = b) : Calls Tryz.prog 5 #[.slice p a.length c, .slice q b.length d] w (GiveB w true) := by
 have hza := small_sz hsa HRa.out; have hzb := small_sz hsb HRb.out
 have hla := small_len hsa; have hlb := small_len hsb
 have h2a : a.length ≤ 2000 := by omega
 have h2b : b.length ≤ 2000 := by omega
 have cp := fun V (h : Nds V p a) (g : G V) => H.print p c a V hca h2a hza h g
 have cq := fun V (h : Nds V q b) (g : G V) => H.print q d b V hcb h2b hzb h g
 have ck := fun V (h : Nds V p a) (g : G V) => H.check p c a V hca h2a hza h g
 have cd := fun V (h : Nds V p a) (g : G V) => H.depth p c a V hca h2a hza h g
 have cs := fun V (h : Nds V p a) (k : Nds V q b) => rtsame_any p q c d a b V (by omega) (by omega) h k
 have hK : checkT a = 100 := by unfold checkT; rw [if_pos (.inr (.inr h3))]
 rw [hK] at ck
 clear hK
 rw [decide_eq_true h5] at cs
 rw [show printT b = printT a by rw [h5]] at cq h4
 clear h5
 generalize printT a = P at *
 generalize depthT a = D at *
 have h1b : (P == []) = false := beq_false_of_ne h1
 have e1 : (P != []) = true := by rw [bne, h1b]; rfl
 have h2i : (P.length : Int) ≤ 20000 := by omega
 have h3i : ¬ ((D : Int) ≤ 150) := by omega
 have HB := Lib.hid H; have HG := Lib.hid hg; clear H hg
 have CSa : Hid (∀ V, Nds V p a → Calls Tryz.prog 8 #[.slice p a.length c] V (GiveB V true)) := Lib.hid fun V h => by
  have k := rtsmall_any p c a V hna h
  rw [hsa] at k
  exact k
 have CSb : Hid (∀ V, Nds V q b → Calls Tryz.prog 8 #[.slice q b.length d] V (GiveB V true)) := Lib.hid fun V h => by
  have k := rtsmall_any q d b V hnb h
  rw [hsb] at k
  exact k
 have LTa := Lib.hid hTa; have LTb := Lib.hid hTb
 have CP := Lib.hid cp; have CQ := Lib.hid cq; have CK := Lib.hid ck; have CD := Lib.hid cd; have CS := Lib.hid cs
 clear hTa hTb cp cq ck cd cs hza hzb h2a h2b hla hlb hsa hsb
 clear h4
 go_enter Tryz.func5, Tryz.ntmps5
 have b0 := Below.refl w.heap.size w
 go_wp2_with fail
 refine (fixed10_any HB.out _ HG.out).mono ?_
 rintro e w1 ⟨rfl, b⟩
 have b1 := Below.more b0 b
 replace LTa := Lib.hid (LTa.out.below b)
 replace LTb := Lib.hid (LTb.out.below b)
 replace HG := Lib.hid (HB.out.below HG.out b)
 clear b
 go_wp2_with fail
 refine (CSa.out _ LTa.out).mono ?_
 rintro e w2 ⟨rfl, b⟩
 have b2 := Below.more b1 b
 replace LTa := Lib.hid (LTa.out.below b)
 replace LTb := Lib.hid (LTb.out.below b)
 replace HG := Lib.hid (HB.out.below HG.out b)
 clear b
 go_wp2_with fail
 refine (CSb.out _ LTb.out).mono ?_
 rintro e w3 ⟨rfl, b⟩
 have b3 := Below.more b2 b
 replace LTa := Lib.hid (LTa.out.below b)
 replace LTb := Lib.hid (LTb.out.below b)
 replace HG := Lib.hid (HB.out.below HG.out b)
 clear b
 go_wp2_with fail
 refine (CP.out _ LTa.out HG.out).mono ?_
 rintro e w4 ⟨rfl, b⟩
 have b4 := Below.more b3 b
 replace LTa := Lib.hid (LTa.out.below b)
 replace LTb := Lib.hid (LTb.out.below b)
 replace HG := Lib.hid (HB.out.below HG.out b)
 clear b
 go_wp2_with fail
 refine (CQ.out _ LTb.out HG.out).mono ?_
 rintro e w5 ⟨rfl, b⟩
 have b5 := Below.more b4 b
 replace LTa := Lib.hid (LTa.out.below b)
 replace LTb := Lib.hid (LTb.out.below b)
 replace HG := Lib.hid (HB.out.below HG.out b)
 clear b
 go_wp2_with fail
 refine (CK.out _ LTa.out HG.out).mono ?_
 rintro e w6 ⟨rfl, b⟩
 have b6 := Below.more b5 b
 replace LTa := Lib.hid (LTa.out.below b)
 replace LTb := Lib.hid (LTb.out.below b)
 replace HG := Lib.hid (HB.out.below HG.out b)
 clear b
 go_wp2_with fail
 refine (CD.out _ LTa.out HG.out).mono ?_
 rintro e w7 ⟨rfl, b⟩
 have b7 := Below.more b6 b
 replace LTa := Lib.hid (LTa.out.below b)
 replace LTb := Lib.hid (LTb.out.below b)
 replace HG := Lib.hid (HB.out.below HG.out b)
 clear b
 go_wp2_with fail
 refine (CS.out _ LTa.out LTb.out).mono ?_
 rintro e w8 ⟨rfl, b⟩
 have b8 := Below.more b7 b
 replace LTa := Lib.hid (LTa.out.below b)
 replace LTb := Lib.hid (LTb.out.below b)
 replace HG := Lib.hid (HB.out.below HG.out b)
 clear b
 go_wp2_with fail
 go_ret
 exact ⟨ret_bool (by first | rfl | simp), b8⟩
set_option maxRecDepth 100000 in
set_option maxHeartbeats 4000000 in
theorem apart10_du (H : TermC G) (p : Option Addr) (c : Nat) (a : List Nd) (q : Option Addr) (d : Nat) (b : List Nd) (w : World) (hca : a.length ≤ c) (hna : a.length ≤ 4611686018427387904) (HRa : Hid (∀ x ∈ a, RgN x)) (hTa : Nds w p a) (hcb : b.length ≤ d) (hnb : b.length ≤ 4611686018427387904) (HRb : Hid (∀ x ∈ b, RgN x)) (hTb : Nds w q b) (hg : G w) (hsa : smallT a = true) (hsb : smallT b = true) (h1 : ¬ printT a = []) (h2 : ¬ 20000 < (printT a).length) (h3 : 150 < depthT a) (h4 : ¬ printT b = []) (h5 : ¬ a = b) : Calls Tryz.prog 5 #[.slice p a.length c, .slice q b.length d] w (GiveB w true) := by
 have hza := small_sz hsa HRa.out; have hzb := small_sz hsb HRb.out
 have hla := small_len hsa; have hlb := small_len hsb
 have h2a : a.length ≤ 2000 := by omega
 have h2b : b.length ≤ 2000 := by omega
 have cp := fun V (h : Nds V p a) (g : G V) => H.print p c a V hca h2a hza h g
 have cq := fun V (h : Nds V q b) (g : G V) => H.print q d b V hcb h2b hzb h g
 have ck := fun V (h : Nds V p a) (g : G V) => H.check p c a V hca h2a hza h g
 have cd := fun V (h : Nds V p a) (g : G V) => H.depth p c a V hca h2a hza h g
 have cs := fun V (h : Nds V p a) (k : Nds V q b) => rtsame_any p q c d a b V (by omega) (by omega) h k
 have hK : checkT a = 100 := by unfold checkT; rw [if_pos (.inr (.inr h3))]
 rw [hK] at ck
 clear hK
 have h6 : ¬ printT a = printT b := fun e => h5 ((Tm.print_inj h1 h4).1 e)
 rw [decide_eq_false h5] at cs
 clear h5
 generalize printT a = P at *
 generalize printT b = Q at *
 generalize depthT a = D at *
 have h1b : (P == []) = false := beq_false_of_ne h1
 have e1 : (P != []) = true := by rw [bne, h1b]; rfl
 have h4b : (Q == []) = false := beq_false_of_ne h4
 have h6b : (P == Q) = false := beq_false_of_ne h6
 have h2i : (P.length : Int) ≤ 20000 := by omega
 have h3i : ¬ ((D : Int) ≤ 150) := by omega
 have HB := Lib.hid H; have HG := Lib.hid hg; clear H hg
 have CSa : Hid (∀ V, Nds V p a → Calls Tryz.prog 8 #[.slice p a.length c] V (GiveB V true)) := Lib.hid fun V h => by
  have k := rtsmall_any p c a V hna h
  rw [hsa] at k
  exact k
 have CSb : Hid (∀ V, Nds V q b → Calls Tryz.prog 8 #[.slice q b.length d] V (GiveB V true)) := Lib.hid fun V h => by
  have k := rtsmall_any q d b V hnb h
  rw [hsb] at k
  exact k
 have LTa := Lib.hid hTa; have LTb := Lib.hid hTb
 have CP := Lib.hid cp; have CQ := Lib.hid cq; have CK := Lib.hid ck; have CD := Lib.hid cd; have CS := Lib.hid cs
 clear hTa hTb cp cq ck cd cs hza hzb h2a h2b hla hlb hsa hsb
 clear hnb
 go_enter Tryz.func5, Tryz.ntmps5
 have b0 := Below.refl w.heap.size w
 go_wp2_with fail
 refine (fixed10_any HB.out _ HG.out).mono ?_
 rintro e w1 ⟨rfl, b⟩
 have b1 := Below.more b0 b
 replace LTa := Lib.hid (LTa.out.below b)
 replace LTb := Lib.hid (LTb.out.below b)
 replace HG := Lib.hid (HB.out.below HG.out b)
 clear b
 go_wp2_with fail
 refine (CSa.out _ LTa.out).mono ?_
 rintro e w2 ⟨rfl, b⟩
 have b2 := Below.more b1 b
 replace LTa := Lib.hid (LTa.out.below b)
 replace LTb := Lib.hid (LTb.out.below b)
 replace HG := Lib.hid (HB.out.below HG.out b)
 clear b
 go_wp2_with fail
 refine (CSb.out _ LTb.out).mono ?_
 rintro e w3 ⟨rfl, b⟩
 have b3 := Below.more b2 b
 replace LTa := Lib.hid (LTa.out.below b)
 replace LTb := Lib.hid (LTb.out.below b)
 replace HG := Lib.hid (HB.out.below HG.out b)
 clear b
 go_wp2_with fail
 refine (CP.out _ LTa.out HG.out).mono ?_
 rintro e w4 ⟨rfl, b⟩
 have b4 := Below.more b3 b
 replace LTa := Lib.hid (LTa.out.below b)
 replace LTb := Lib.hid (LTb.out.below b)
 replace HG := Lib.hid (HB.out.below HG.out b)
 clear b
 go_wp2_with fail
 refine (CQ.out _ LTb.out HG.out).mono ?_
 rintro e w5 ⟨rfl, b⟩
 have b5 := Below.more b4 b
 replace LTa := Lib.hid (LTa.out.below b)
 replace LTb := Lib.hid (LTb.out.below b)
 replace HG := Lib.hid (HB.out.below HG.out b)
 clear b
 go_wp2_with fail
 refine (CK.out _ LTa.out HG.out).mono ?_
 rintro e w6 ⟨rfl, b⟩
 have b6 := Below.more b5 b
 replace LTa := Lib.hid (LTa.out.below b)
 replace LTb := Lib.hid (LTb.out.below b)
 replace HG := Lib.hid (HB.out.below HG.out b)
 clear b
 go_wp2_with fail
 refine (CD.out _ LTa.out HG.out).mono ?_
 rintro e w7 ⟨rfl, b⟩
 have b7 := Below.more b6 b
 replace LTa := Lib.hid (LTa.out.below b)
 replace LTb := Lib.hid (LTb.out.below b)
 replace HG := Lib.hid (HB.out.below HG.out b)
 clear b
 go_wp2_with fail
 refine (CS.out _ LTa.out LTb.out).mono ?_
 rintro e w8 ⟨rfl, b⟩
 have b8 := Below.more b7 b
 replace LTa := Lib.hid (LTa.out.below b)
 replace LTb := Lib.hid (LTb.out.below b)
 replace HG := Lib.hid (HB.out.below HG.out b)
 clear b
 go_wp2_with fail
 go_ret
 exact ⟨ret_bool (by first | rfl | simp), b8⟩
set_option maxRecDepth 100000 in
set_option maxHeartbeats 4000000 in
theorem apart10_yn (H : TermC G) (p : Option Addr) (c : Nat) (a : List Nd) (q : Option Addr) (d : Nat) (b : List Nd) (w : World) (hca : a.length ≤ c) (hna : a.length ≤ 4611686018427387904) (HRa : Hid (∀ x ∈ a, RgN x)) (hTa : Nds w p a) (hcb : b.length ≤ d) (hnb : b.length ≤ 4611686018427387904) (HRb : Hid (∀ x ∈ b, RgN x)) (hTb : Nds w q b) (hg : G w) (hsa : smallT a = true) (hsb : smallT b = true) (h1 : ¬ printT a = []) (h2 : ¬ 20000 < (printT a).length) (h3 : ¬ 150 < depthT a) (h4 : printT b = []) : Calls Tryz.prog 5 #[.slice p a.length c, .slice q b.length d] w (GiveB w true) := by
 have hza := small_sz hsa HRa.out; have hzb := small_sz hsb HRb.out
 have hla := small_len hsa; have hlb := small_len hsb
 have h2a : a.length ≤ 2000 := by omega
 have h2b : b.length ≤ 2000 := by omega
 have cp := fun V (h : Nds V p a) (g : G V) => H.print p c a V hca h2a hza h g
 have cq := fun V (h : Nds V q b) (g : G V) => H.print q d b V hcb h2b hzb h g
 have ck := fun V (h : Nds V p a) (g : G V) => H.check p c a V hca h2a hza h g
 have cd := fun V (h : Nds V p a) (g : G V) => H.depth p c a V hca h2a hza h g
 have cs := fun V (h : Nds V p a) (k : Nds V q b) => rtsame_any p q c d a b V (by omega) (by omega) h k
 have hK : checkT a = 0 := by unfold checkT; rw [if_neg (by rintro (h | h | h) <;> contradiction)]
 rw [hK] at ck
 clear hK
 rw [h4] at cq
 clear h4
 generalize printT a = P at *
 generalize depthT a = D at *
 have h1b : (P == []) = false := beq_false_of_ne h1
 have e1 : (P != []) = true := by rw [bne, h1b]; rfl
 have h2i : (P.length : Int) ≤ 20000 := by omega
 have h3i : (D : Int) ≤ 150 := by omega
 have HB := Lib.hid H; have HG := Lib.hid hg; clear H hg
 have CSa : Hid (∀ V, Nds V p a → Calls Tryz.prog 8 #[.slice p a.length c] V (GiveB V true)) := Lib.hid fun V h => by
  have k := rtsmall_any p c a V hna h
  rw [hsa] at k
  exact k
 have CSb : Hid (∀ V, Nds V q b → Calls Tryz.prog 8 #[.slice q b.length d] V (GiveB V true)) := Lib.hid fun V h => by
  have k := rtsmall_any q d b V hnb h
  rw [hsb] at k
  exact k
 have LTa := Lib.hid hTa; have LTb := Lib.hid hTb
 have CP := Lib.hid cp; have CQ := Lib.hid cq; have CK := Lib.hid ck; have CD := Lib.hid cd; have CS := Lib.hid cs
 clear hTa hTb cp cq ck cd cs hza hzb h2a h2b hla hlb hsa hsb
 clear CS
 go_enter Tryz.func5, Tryz.ntmps5
 have b0 := Below.refl w.heap.size w
 go_wp2_with fail
 refine (fixed10_any HB.out _ HG.out).mono ?_
 rintro e w1 ⟨rfl, b⟩
 have b1 := Below.more b0 b
 replace LTa := Lib.hid (LTa.out.below b)
 replace LTb := Lib.hid (LTb.out.below b)
 replace HG := Lib.hid (HB.out.below HG.out b)
 clear b
 go_wp2_with fail
 refine (CSa.out _ LTa.out).mono ?_
 rintro e w2 ⟨rfl, b⟩
 have b2 := Below.more b1 b
 replace LTa := Lib.hid (LTa.out.below b)
 replace LTb := Lib.hid (LTb.out.below b)
 replace HG := Lib.hid (HB.out.below HG.out b)
 clear b
 go_wp2_with fail
 refine (CSb.out _ LTb.out).mono ?_
 rintro e w3 ⟨rfl, b⟩
 have b3 := Below.more b2 b
 replace LTa := Lib.hid (LTa.out.below b)
 replace LTb := Lib.hid (LTb.out.below b)
 replace HG := Lib.hid (HB.out.below HG.out b)
 clear b
 go_wp2_with fail
 refine (CP.out _ LTa.out HG.out).mono ?_
 rintro e w4 ⟨rfl, b⟩
 have b4 := Below.more b3 b
 replace LTa := Lib.hid (LTa.out.below b)
 replace LTb := Lib.hid (LTb.out.below b)
 replace HG := Lib.hid (HB.out.below HG.out b)
 clear b
 go_wp2_with fail
 refine (CQ.out _ LTb.out HG.out).mono ?_
 rintro e w5 ⟨rfl, b⟩
 have b5 := Below.more b4 b
 replace LTa := Lib.hid (LTa.out.below b)
 replace LTb := Lib.hid (LTb.out.below b)
 replace HG := Lib.hid (HB.out.below HG.out b)
 clear b
 go_wp2_with fail
 refine (CK.out _ LTa.out HG.out).mono ?_
 rintro e w6 ⟨rfl, b⟩
 have b6 := Below.more b5 b
 replace LTa := Lib.hid (LTa.out.below b)
 replace LTb := Lib.hid (LTb.out.below b)
 replace HG := Lib.hid (HB.out.below HG.out b)
 clear b
 go_wp2_with fail
 refine (CD.out _ LTa.out HG.out).mono ?_
 rintro e w7 ⟨rfl, b⟩
 have b7 := Below.more b6 b
 replace LTa := Lib.hid (LTa.out.below b)
 replace LTb := Lib.hid (LTb.out.below b)
 replace HG := Lib.hid (HB.out.below HG.out b)
 clear b
 go_wp2_with fail
 go_ret
 exact ⟨ret_bool (by first | rfl | simp), b7⟩
set_option maxRecDepth 100000 in
set_option maxHeartbeats 4000000 in
theorem apart10_ys (H : TermC G) (p : Option Addr) (c : Nat) (a : List Nd) (q : Option Addr) (d : Nat) (b : List Nd) (w : World) (hca : a.length ≤ c) (hna : a.length ≤ 4611686018427387904) (HRa : Hid (∀ x ∈ a, RgN x)) (hTa : Nds w p a) (hcb : b.length ≤ d) (hnb : b.length ≤ 4611686018427387904) (HRb : Hid (∀ x ∈ b, RgN x)) (hTb : Nds w q b) (hg : G w) (hsa : smallT a = true) (hsb : smallT b = true) (h1 : ¬ printT a = []) (h2 : ¬ 20000 < (printT a).length) (h3 : ¬ 150 < depthT a) (h4 : ¬ printT b = []) (h5 : a = b) : Calls Tryz.prog 5 #[.slice p a.length c, .slice q b.length d] w (GiveB w true) := by
 have hza := small_sz hsa HRa.out; have hzb := small_sz hsb HRb.out
 have hla := small_len hsa; have hlb := small_len hsb
 have h2a : a.length ≤ 2000 := by omega
 have h2b : b.length ≤ 2000 := by omega
 have cp := fun V (h : Nds V p a) (g : G V) => H.print p c a V hca h2a hza h g
 have cq := fun V (h : Nds V q b) (g : G V) => H.print q d b V hcb h2b hzb h g
 have ck := fun V (h : Nds V p a) (g : G V) => H.check p c a V hca h2a hza h g
 have cd := fun V (h : Nds V p a) (g : G V) => H.depth p c a V hca h2a hza h g
 have cs := fun V (h : Nds V p a) (k : Nds V q b) => rtsame_any p q c d a b V (by omega) (by omega) h k
 have hK : checkT a = 0 := by unfold checkT; rw [if_neg (by rintro (h | h | h) <;> contradiction)]
 rw [hK] at ck
 clear hK
 rw [decide_eq_true h5] at cs
 rw [show printT b = printT a by rw [h5]] at cq h4
 clear h5
 generalize printT a = P at *
 generalize depthT a = D at *
 have h1b : (P == []) = false := beq_false_of_ne h1
 have e1 : (P != []) = true := by rw [bne, h1b]; rfl
 have h2i : (P.length : Int) ≤ 20000 := by omega
 have h3i : (D : Int) ≤ 150 := by omega
 have HB := Lib.hid H; have HG := Lib.hid hg; clear H hg
 have CSa : Hid (∀ V, Nds V p a → Calls Tryz.prog 8 #[.slice p a.length c] V (GiveB V true)) := Lib.hid fun V h => by
  have k := rtsmall_any p c a V hna h
  rw [hsa] at k
  exact k
 have CSb : Hid (∀ V, Nds V q b → Calls Tryz.prog 8 #[.slice q b.length d] V (GiveB V true)) := Lib.hid fun V h => by
  have k := rtsmall_any q d b V hnb h
  rw [hsb] at k
  exact k
 have LTa := Lib.hid hTa; have LTb := Lib.hid hTb
 have CP := Lib.hid cp; have CQ := Lib.hid cq; have CK := Lib.hid ck; have CD := Lib.hid cd; have CS := Lib.hid cs
 clear hTa hTb cp cq ck cd cs hza hzb h2a h2b hla hlb hsa hsb
 clear h4
 go_enter Tryz.func5, Tryz.ntmps5
 have b0 := Below.refl w.heap.size w
 go_wp2_with fail
 refine (fixed10_any HB.out _ HG.out).mono ?_
 rintro e w1 ⟨rfl, b⟩
 have b1 := Below.more b0 b
 replace LTa := Lib.hid (LTa.out.below b)
 replace LTb := Lib.hid (LTb.out.below b)
 replace HG := Lib.hid (HB.out.below HG.out b)
 clear b
 go_wp2_with fail
 refine (CSa.out _ LTa.out).mono ?_
 rintro e w2 ⟨rfl, b⟩
 have b2 := Below.more b1 b
 replace LTa := Lib.hid (LTa.out.below b)
 replace LTb := Lib.hid (LTb.out.below b)
 replace HG := Lib.hid (HB.out.below HG.out b)
 clear b
 go_wp2_with fail
 refine (CSb.out _ LTb.out).mono ?_
 rintro e w3 ⟨rfl, b⟩
 have b3 := Below.more b2 b
 replace LTa := Lib.hid (LTa.out.below b)
 replace LTb := Lib.hid (LTb.out.below b)
 replace HG := Lib.hid (HB.out.below HG.out b)
 clear b
 go_wp2_with fail
 refine (CP.out _ LTa.out HG.out).mono ?_
 rintro e w4 ⟨rfl, b⟩
 have b4 := Below.more b3 b
 replace LTa := Lib.hid (LTa.out.below b)
 replace LTb := Lib.hid (LTb.out.below b)
 replace HG := Lib.hid (HB.out.below HG.out b)
 clear b
 go_wp2_with fail
 refine (CQ.out _ LTb.out HG.out).mono ?_
 rintro e w5 ⟨rfl, b⟩
 have b5 := Below.more b4 b
 replace LTa := Lib.hid (LTa.out.below b)
 replace LTb := Lib.hid (LTb.out.below b)
 replace HG := Lib.hid (HB.out.below HG.out b)
 clear b
 go_wp2_with fail
 refine (CK.out _ LTa.out HG.out).mono ?_
 rintro e w6 ⟨rfl, b⟩
 have b6 := Below.more b5 b
 replace LTa := Lib.hid (LTa.out.below b)
 replace LTb := Lib.hid (LTb.out.below b)
 replace HG := Lib.hid (HB.out.below HG.out b)
 clear b
 go_wp2_with fail
 refine (CD.out _ LTa.out HG.out).mono ?_
 rintro e w7 ⟨rfl, b⟩
 have b7 := Below.more b6 b
 replace LTa := Lib.hid (LTa.out.below b)
 replace LTb := Lib.hid (LTb.out.below b)
 replace HG := Lib.hid (HB.out.below HG.out b)
 clear b
 go_wp2_with fail
 refine (CS.out _ LTa.out LTb.out).mono ?_
 rintro e w8 ⟨rfl, b⟩
 have b8 := Below.more b7 b
 replace LTa := Lib.hid (LTa.out.below b)
 replace LTb := Lib.hid (LTb.out.below b)
 replace HG := Lib.hid (HB.out.below HG.out b)
 clear b
 go_wp2_with fail
 go_ret
 exact ⟨ret_bool (by first | rfl | simp), b8⟩
set_option maxRecDepth 100000 in
set_option maxHeartbeats 4000000 in
theorem apart10_yu (H : TermC G) (p : Option Addr) (c : Nat) (a : List Nd) (q : Option Addr) (d : Nat) (b : List Nd) (w : World) (hca : a.length ≤ c) (hna : a.length ≤ 4611686018427387904) (HRa : Hid (∀ x ∈ a, RgN x)) (hTa : Nds w p a) (hcb : b.length ≤ d) (hnb : b.length ≤ 4611686018427387904) (HRb : Hid (∀ x ∈ b, RgN x)) (hTb : Nds w q b) (hg : G w) (hsa : smallT a = true) (hsb : smallT b = true) (h1 : ¬ printT a = []) (h2 : ¬ 20000 < (printT a).length) (h3 : ¬ 150 < depthT a) (h4 : ¬ printT b = []) (h5 : ¬ a = b) : Calls Tryz.prog 5 #[.slice p a.length c, .slice q b.length d] w (GiveB w true) := by
 have hza := small_sz hsa HRa.out; have hzb := small_sz hsb HRb.out
 have hla := small_len hsa; have hlb := small_len hsb
 have h2a : a.length ≤ 2000 := by omega
 have h2b : b.length ≤ 2000 := by omega
 have cp := fun V (h : Nds V p a) (g : G V) => H.print p c a V hca h2a hza h g
 have cq := fun V (h : Nds V q b) (g : G V) => H.print q d b V hcb h2b hzb h g
 have ck := fun V (h : Nds V p a) (g : G V) => H.check p c a V hca h2a hza h g
 have cd := fun V (h : Nds V p a) (g : G V) => H.depth p c a V hca h2a hza h g
 have cs := fun V (h : Nds V p a) (k : Nds V q b) => rtsame_any p q c d a b V (by omega) (by omega) h k
 have hK : checkT a = 0 := by unfold checkT; rw [if_neg (by rintro (h | h | h) <;> contradiction)]
 rw [hK] at ck
 clear hK
 have h6 : ¬ printT a = printT b := fun e => h5 ((Tm.print_inj h1 h4).1 e)
 rw [decide_eq_false h5] at cs
 clear h5
 generalize printT a = P at *
 generalize printT b = Q at *
 generalize depthT a = D at *
 have h1b : (P == []) = false := beq_false_of_ne h1
 have e1 : (P != []) = true := by rw [bne, h1b]; rfl
 have h4b : (Q == []) = false := beq_false_of_ne h4
 have h6b : (P == Q) = false := beq_false_of_ne h6
 have h2i : (P.length : Int) ≤ 20000 := by omega
 have h3i : (D : Int) ≤ 150 := by omega
 have HB := Lib.hid H; have HG := Lib.hid hg; clear H hg
 have CSa : Hid (∀ V, Nds V p a → Calls Tryz.prog 8 #[.slice p a.length c] V (GiveB V true)) := Lib.hid fun V h => by
  have k := rtsmall_any p c a V hna h
  rw [hsa] at k
  exact k
 have CSb : Hid (∀ V, Nds V q b → Calls Tryz.prog 8 #[.slice q b.length d] V (GiveB V true)) := Lib.hid fun V h => by
  have k := rtsmall_any q d b V hnb h
  rw [hsb] at k
  exact k
 have LTa := Lib.hid hTa; have LTb := Lib.hid hTb
 have CP := Lib.hid cp; have CQ := Lib.hid cq; have CK := Lib.hid ck; have CD := Lib.hid cd; have CS := Lib.hid cs
 clear hTa hTb cp cq ck cd cs hza hzb h2a h2b hla hlb hsa hsb
 clear hnb
 go_enter Tryz.func5, Tryz.ntmps5
 have b0 := Below.refl w.heap.size w
 go_wp2_with fail
 refine (fixed10_any HB.out _ HG.out).mono ?_
 rintro e w1 ⟨rfl, b⟩
 have b1 := Below.more b0 b
 replace LTa := Lib.hid (LTa.out.below b)
 replace LTb := Lib.hid (LTb.out.below b)
 replace HG := Lib.hid (HB.out.below HG.out b)
 clear b
 go_wp2_with fail
 refine (CSa.out _ LTa.out).mono ?_
 rintro e w2 ⟨rfl, b⟩
 have b2 := Below.more b1 b
 replace LTa := Lib.hid (LTa.out.below b)
 replace LTb := Lib.hid (LTb.out.below b)
 replace HG := Lib.hid (HB.out.below HG.out b)
 clear b
 go_wp2_with fail
 refine (CSb.out _ LTb.out).mono ?_
 rintro e w3 ⟨rfl, b⟩
 have b3 := Below.more b2 b
 replace LTa := Lib.hid (LTa.out.below b)
 replace LTb := Lib.hid (LTb.out.below b)
 replace HG := Lib.hid (HB.out.below HG.out b)
 clear b
 go_wp2_with fail
 refine (CP.out _ LTa.out HG.out).mono ?_
 rintro e w4 ⟨rfl, b⟩
 have b4 := Below.more b3 b
 replace LTa := Lib.hid (LTa.out.below b)
 replace LTb := Lib.hid (LTb.out.below b)
 replace HG := Lib.hid (HB.out.below HG.out b)
 clear b
 go_wp2_with fail
 refine (CQ.out _ LTb.out HG.out).mono ?_
 rintro e w5 ⟨rfl, b⟩
 have b5 := Below.more b4 b
 replace LTa := Lib.hid (LTa.out.below b)
 replace LTb := Lib.hid (LTb.out.below b)
 replace HG := Lib.hid (HB.out.below HG.out b)
 clear b
 go_wp2_with fail
 refine (CK.out _ LTa.out HG.out).mono ?_
 rintro e w6 ⟨rfl, b⟩
 have b6 := Below.more b5 b
 replace LTa := Lib.hid (LTa.out.below b)
 replace LTb := Lib.hid (LTb.out.below b)
 replace HG := Lib.hid (HB.out.below HG.out b)
 clear b
 go_wp2_with fail
 refine (CD.out _ LTa.out HG.out).mono ?_
 rintro e w7 ⟨rfl, b⟩
 have b7 := Below.more b6 b
 replace LTa := Lib.hid (LTa.out.below b)
 replace LTb := Lib.hid (LTb.out.below b)
 replace HG := Lib.hid (HB.out.below HG.out b)
 clear b
 go_wp2_with fail
 refine (CS.out _ LTa.out LTb.out).mono ?_
 rintro e w8 ⟨rfl, b⟩
 have b8 := Below.more b7 b
 replace LTa := Lib.hid (LTa.out.below b)
 replace LTb := Lib.hid (LTb.out.below b)
 replace HG := Lib.hid (HB.out.below HG.out b)
 clear b
 go_wp2_with fail
 go_ret
 exact ⟨ret_bool (by first | rfl | simp), b8⟩
theorem apart10_any (H : TermC G) (p : Option Addr) (c : Nat) (a : List Nd) (q : Option Addr) (d : Nat) (b : List Nd) (w : World) (hca : a.length ≤ c) (hna : a.length ≤ 4611686018427387904) (HRa : Hid (∀ x ∈ a, RgN x)) (hTa : Nds w p a) (hcb : b.length ≤ d) (hnb : b.length ≤ 4611686018427387904) (HRb : Hid (∀ x ∈ b, RgN x)) (hTb : Nds w q b) (hg : G w) : Calls Tryz.prog 5 #[.slice p a.length c, .slice q b.length d] w (GiveB w true) := by
 cases hsa : smallT a with
 | false => exact apart10_a H p c a q d b w hca hna HRa hTa hcb hnb HRb hTb hg hsa
 | true =>
  cases hsb : smallT b with
  | false => exact apart10_b H p c a q d b w hca hna HRa hTa hcb hnb HRb hTb hg hsa hsb
  | true =>
   by_cases h1 : printT a = []
   ·exact apart10_n H p c a q d b w hca hna HRa hTa hcb hnb HRb hTb hg hsa hsb h1
   by_cases h2 : 20000 < (printT a).length
   ·by_cases h4 : printT b = []
    ·exact apart10_ln H p c a q d b w hca hna HRa hTa hcb hnb HRb hTb hg hsa hsb h1 h2 h4
    by_cases h5 : a = b
    ·exact apart10_ls H p c a q d b w hca hna HRa hTa hcb hnb HRb hTb hg hsa hsb h1 h2 h4 h5
    ·exact apart10_lu H p c a q d b w hca hna HRa hTa hcb hnb HRb hTb hg hsa hsb h1 h2 h4 h5
   by_cases h3 : 150 < depthT a
   ·by_cases h4 : printT b = []
    ·exact apart10_dn H p c a q d b w hca hna HRa hTa hcb hnb HRb hTb hg hsa hsb h1 h2 h3 h4
    by_cases h5 : a = b
    ·exact apart10_ds H p c a q d b w hca hna HRa hTa hcb hnb HRb hTb hg hsa hsb h1 h2 h3 h4 h5
    ·exact apart10_du H p c a q d b w hca hna HRa hTa hcb hnb HRb hTb hg hsa hsb h1 h2 h3 h4 h5
   by_cases h4 : printT b = []
   ·exact apart10_yn H p c a q d b w hca hna HRa hTa hcb hnb HRb hTb hg hsa hsb h1 h2 h3 h4
   by_cases h5 : a = b
   ·exact apart10_ys H p c a q d b w hca hna HRa hTa hcb hnb HRb hTb hg hsa hsb h1 h2 h3 h4 h5
   ·exact apart10_yu H p c a q d b w hca hna HRa hTa hcb hnb HRb hTb hg hsa hsb h1 h2 h3 h4 h5
end Go.Proofs.YtdeinhkdphgfaaaGreatDoor
