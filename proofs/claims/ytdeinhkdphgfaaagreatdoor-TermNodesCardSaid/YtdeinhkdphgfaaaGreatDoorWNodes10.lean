/- TermNodes: a term of one node may be just if that node may. -/
import Derived.Deep.CutRange
import Derived.Test.YtdeinhkdphgfaaaGreatDoorFixT
namespace Go.Proofs.YtdeinhkdphgfaaaGreatDoor
open Go.RowKit
set_option linter.unusedSimpArgs false
set_option linter.unusedVariables false
open Tm (Nd Tr arN arI formB joinT printT checkT depthT argsT plainN)
variable {G : World → Prop}
set_option maxRecDepth 100000 in
set_option maxHeartbeats 4000000 in
theorem nodes10_0 (H : TermC G) (op a b : Int) (w : World) (ho : -9223372036854775808 ≤ op) (ho' : op ≤ 9223372036854775807) (hg : G w) (h : a < -2) : Calls Tryz.prog 6 #[.int .i64 op, .int .i64 a, .int .i64 b] w (GiveB w true) := by
 have HB := Lib.hid H; have HG := Lib.hid hg; clear H hg
 go_enter Tryz.func6, Tryz.ntmps6
 have b0 := Below.refl w.heap.size w
 go_wp2_with fail
 refine (fixed10_any HB.out _ HG.out).mono ?_
 rintro e w1 ⟨rfl, b⟩
 have b1 := Below.more b0 b
 replace HG := Lib.hid (HB.out.below HG.out b)
 clear b
 go_wp2_with fail
 refine (fixed10_any HB.out _ HG.out).mono ?_
 rintro e w2 ⟨rfl, b⟩
 have b2 := Below.more b1 b
 replace HG := Lib.hid (HB.out.below HG.out b)
 clear b
 go_wp2_with fail
 go_ret
 exact ⟨ret_bool (by first | rfl | simp), b2⟩
set_option maxRecDepth 100000 in
set_option maxHeartbeats 4000000 in
theorem nodes10_1 (H : TermC G) (op a b : Int) (w : World) (ho : -9223372036854775808 ≤ op) (ho' : op ≤ 9223372036854775807) (hg : G w) (h0 : ¬ a < -2) (h : b < -2) : Calls Tryz.prog 6 #[.int .i64 op, .int .i64 a, .int .i64 b] w (GiveB w true) := by
 have HB := Lib.hid H; have HG := Lib.hid hg; clear H hg
 go_enter Tryz.func6, Tryz.ntmps6
 have b0 := Below.refl w.heap.size w
 go_wp2_with fail
 refine (fixed10_any HB.out _ HG.out).mono ?_
 rintro e w1 ⟨rfl, b⟩
 have b1 := Below.more b0 b
 replace HG := Lib.hid (HB.out.below HG.out b)
 clear b
 go_wp2_with fail
 refine (fixed10_any HB.out _ HG.out).mono ?_
 rintro e w2 ⟨rfl, b⟩
 have b2 := Below.more b1 b
 replace HG := Lib.hid (HB.out.below HG.out b)
 clear b
 go_wp2_with fail
 go_ret
 exact ⟨ret_bool (by first | rfl | simp), b2⟩
set_option maxRecDepth 100000 in
set_option maxHeartbeats 4000000 in
theorem nodes10_2 (H : TermC G) (op a b : Int) (w : World) (ho : -9223372036854775808 ≤ op) (ho' : op ≤ 9223372036854775807) (hg : G w) (h0 : ¬ a < -2) (h1 : ¬ b < -2) (h : 10100 < a) : Calls Tryz.prog 6 #[.int .i64 op, .int .i64 a, .int .i64 b] w (GiveB w true) := by
 have HB := Lib.hid H; have HG := Lib.hid hg; clear H hg
 go_enter Tryz.func6, Tryz.ntmps6
 have b0 := Below.refl w.heap.size w
 go_wp2_with fail
 refine (fixed10_any HB.out _ HG.out).mono ?_
 rintro e w1 ⟨rfl, b⟩
 have b1 := Below.more b0 b
 replace HG := Lib.hid (HB.out.below HG.out b)
 clear b
 go_wp2_with fail
 refine (fixed10_any HB.out _ HG.out).mono ?_
 rintro e w2 ⟨rfl, b⟩
 have b2 := Below.more b1 b
 replace HG := Lib.hid (HB.out.below HG.out b)
 clear b
 go_wp2_with fail
 go_ret
 exact ⟨ret_bool (by first | rfl | simp), b2⟩
set_option maxRecDepth 100000 in
set_option maxHeartbeats 4000000 in
theorem nodes10_3 (H : TermC G) (op a b : Int) (w : World) (ho : -9223372036854775808 ≤ op) (ho' : op ≤ 9223372036854775807) (hg : G w) (h0 : ¬ a < -2) (h1 : ¬ b < -2) (h2 : ¬ 10100 < a) (h : 10100 < b) : Calls Tryz.prog 6 #[.int .i64 op, .int .i64 a, .int .i64 b] w (GiveB w true) := by
 have HB := Lib.hid H; have HG := Lib.hid hg; clear H hg
 go_enter Tryz.func6, Tryz.ntmps6
 have b0 := Below.refl w.heap.size w
 go_wp2_with fail
 refine (fixed10_any HB.out _ HG.out).mono ?_
 rintro e w1 ⟨rfl, b⟩
 have b1 := Below.more b0 b
 replace HG := Lib.hid (HB.out.below HG.out b)
 clear b
 go_wp2_with fail
 refine (fixed10_any HB.out _ HG.out).mono ?_
 rintro e w2 ⟨rfl, b⟩
 have b2 := Below.more b1 b
 replace HG := Lib.hid (HB.out.below HG.out b)
 clear b
 go_wp2_with fail
 go_ret
 exact ⟨ret_bool (by first | rfl | simp), b2⟩
theorem lay6z (w : World) (xa xb xc xd xe xf : Value) (t : TypeId) : ∃ U, w.alloc (.cells #[xa, xb, xc, xd, xe, xf] t) = U ∧ Below w.heap.size w U ∧ w.heap.size < U.heap.size ∧ ∀ v, Below U.heap.size U v → ∀ j x, (#[xa, xb, xc, xd, xe, xf] : Array Value)[j]? = some x → v.cell? ⟨w.heap.size, j, none⟩ = some x ∧ v.frozen? ⟨w.heap.size, j, none⟩ = false := by
 refine ⟨_, rfl, Below.alloc (Below.refl _ _) (Nat.le_refl _) _, by simp, fun v hv j x e => ?_⟩
 exact ⟨(hv.cell (p := ⟨w.heap.size, j, none⟩) (by simp)).trans ((cell_new w _ _ _ rfl j).trans e), (hv.frozen (p := ⟨w.heap.size, j, none⟩) (by simp)).trans (by rw [frozen?_alloc_cells]; simp [World.frozen?])⟩
theorem put6 {w : World} {b : Nat} {xa xb xc xd xe xf ya yb : Value} (hb : b < w.heap.size) (h : ∀ j x, (#[xa, xb, xc, xd, xe, xf] : Array Value)[j]? = some x → w.cell? ⟨b, j, none⟩ = some x) :
  ∀ v, Below ((w.setCell ⟨b, 1, none⟩ ya).setCell ⟨b, 2, none⟩ yb).heap.size ((w.setCell ⟨b, 1, none⟩ ya).setCell ⟨b, 2, none⟩ yb) v → ∀ j x, (#[xa, ya, yb, xd, xe, xf] : Array Value)[j]? = some x → v.cell? ⟨b, j, none⟩ = some x := fun v hv j x e => by
 have hs : ((w.setCell ⟨b, 1, none⟩ ya).setCell ⟨b, 2, none⟩ yb).heap.size = w.heap.size := by rw [size_setCell, size_setCell]
 refine (hv.cell (p := ⟨b, j, none⟩) (by rw [hs]; exact hb)).trans ?_
 have h1 : (w.setCell ⟨b, 1, none⟩ ya).cell? ⟨b, 1, none⟩ = some ya := World.cell?_setCell_same' _ _ _ (by rw [h 1 xb rfl]; rfl)
 have h2 : ((w.setCell ⟨b, 1, none⟩ ya).cell? ⟨b, 2, none⟩).isSome = true := by rw [cell?_setCell_ne _ _ _ _ _ (by decide), h 2 xc rfl]; rfl
 by_cases e2 : j = 2
 ·subst e2
  rw [World.cell?_setCell_same' _ _ _ h2]
  exact e
 rw [cell?_setCell_ne _ _ _ _ _ (fun k => e2 k.symm)]
 by_cases e1 : j = 1
 ·subst e1
  rw [h1]; exact e
 rw [cell?_setCell_ne _ _ _ _ _ (fun k => e1 k.symm)]
 refine h j x ?_
 match j, e1, e2, e with
 | 0, _, _, e => exact e
 | 1, e1, _, _ => exact absurd rfl e1
 | 2, _, e2, _ => exact absurd rfl e2
 | 3, _, _, e => exact e
 | 4, _, _, e => exact e
 | 5, _, _, e => exact e
 | j + 6, _, _, e => exact absurd e (by simp)
set_option maxRecDepth 100000 in
set_option maxHeartbeats 4000000 in
theorem nodes10_w0 (H : TermC G) (op a b : Int) (w : World) (ho : -9223372036854775808 ≤ op) (ho' : op ≤ 9223372036854775807) (hg : G w) (h0 : ¬ a < -2) (h1 : ¬ b < -2) (h2 : ¬ 10100 < a) (h3 : ¬ 10100 < b) (g0 : 2 ≤ op) (g1 : ¬ op ≤ 4) (g2 : ¬ op = 1) : Calls Tryz.prog 6 #[.int .i64 op, .int .i64 a, .int .i64 b] w (GiveB w true) := by
 have CX : Hid (∀ V q, Nds V q [Tm.nodeX op a b] → G V → Calls Tryz.prog 10 #[.slice q 1 1] V (GiveI V 100)) := Lib.hid fun V q h g => by
  have k := H.check q 1 [Tm.nodeX op a b] V (Nat.le_refl _) (show 1 ≤ 2000 by decide) (fun x hx => by rw [List.mem_singleton.1 hx]; exact ⟨⟨Nat.zero_le _, Nat.zero_le _, (by decide : 1 ≤ 100)⟩, ⟨ho, ho'⟩, ⟨show -9223372036854775808 ≤ a by omega, show a ≤ 9223372036854775807 by omega⟩, ⟨show -9223372036854775808 ≤ b by omega, show b ≤ 9223372036854775807 by omega⟩⟩) h g
  rw [Tm.nodeX_none (by omega)] at k
  exact k
 have CY : Hid (∀ V q, Nds V q [Tm.nodeY op a b] → G V → Calls Tryz.prog 10 #[.slice q 1 1] V (GiveI V 100)) := Lib.hid fun V q h g => by
  have k := H.check q 1 [Tm.nodeY op a b] V (Nat.le_refl _) (show 1 ≤ 2000 by decide) (fun x hx => by rw [List.mem_singleton.1 hx]; exact ⟨⟨(by decide : 1 ≤ 100), (by decide : 1 ≤ 100), (by decide : 1 ≤ 100)⟩, ⟨ho, ho'⟩, ⟨show -9223372036854775808 ≤ a by omega, show a ≤ 9223372036854775807 by omega⟩, ⟨show -9223372036854775808 ≤ b by omega, show b ≤ 9223372036854775807 by omega⟩⟩) h g
  rw [Tm.nodeY_none] at k
  exact k
 have e2 : ((op : Int) == 1) = false := beq_false_of_ne g2
 have HB := Lib.hid H; have HG := Lib.hid hg; clear H hg
 go_enter Tryz.func6, Tryz.ntmps6
 have b0 := Below.refl w.heap.size w
 go_wp2_with fail
 refine (fixed10_any HB.out _ HG.out).mono ?_
 rintro e w1 ⟨rfl, b⟩
 have b1 := Below.more b0 b
 replace HG := Lib.hid (HB.out.below HG.out b)
 clear b
 go_upto_region 4 with fail
 obtain ⟨U1, hU, bU1, sU1, rn⟩ := lay6z w1 (.int .i64 op) (.string ⟨#[]⟩) (.string ⟨#[]⟩) (.string ⟨#[120]⟩) (.int .i64 a) (.int .i64 b) 41
 rw [hU]; clear hU
 have n0 := fun v (h : Below U1.heap.size U1 v) => (rn v h 0 _ rfl).1
 have n1 := fun v (h : Below U1.heap.size U1 v) => (rn v h 1 _ rfl).1
 have n2 := fun v (h : Below U1.heap.size U1 v) => (rn v h 2 _ rfl).1
 have n3 := fun v (h : Below U1.heap.size U1 v) => (rn v h 3 _ rfl).1
 have n4 := fun v (h : Below U1.heap.size U1 v) => (rn v h 4 _ rfl).1
 have n5 := fun v (h : Below U1.heap.size U1 v) => (rn v h 5 _ rfl).1
 have bq1 := Below.refl U1.heap.size U1
 go_upto_region 5 with fail
 clear bq1
 obtain ⟨U2, hU, bU2, sU2, rm⟩ := lay6z U1 (.int .i64 op) (.string ⟨#[]⟩) (.string ⟨#[]⟩) (.string ⟨#[120]⟩) (.int .i64 a) (.int .i64 b) 41
 rw [hU]; clear hU
 go_wp2_with fail
 refine (kt_f 1 [49] (wd_const (by decide) (by decide)) (by decide) (by decide) _).mono ?_
 rintro e w3 ⟨rfl, b3⟩
 have z1 := (rm w3 b3 1 _ rfl).1; have z2 := (rm w3 b3 2 _ rfl).1; have f1 := (rm w3 b3 1 _ rfl).2; have f2 := (rm w3 b3 2 _ rfl).2
 go_upto_region 6 with fail
 clear z1 z2 f1 f2
 have rp := put6 (ya := .string ⟨#[49]⟩) (yb := .string ⟨#[49]⟩) (Nat.lt_of_lt_of_le sU2 b3.size) (fun j x e => (rm w3 b3 j x e).1)
 have bp : Below U1.heap.size U1 ((w3.setCell ⟨U1.heap.size, 1, none⟩ (.string ⟨#[49]⟩)).setCell ⟨U1.heap.size, 2, none⟩ (.string ⟨#[49]⟩)) := Below.setCell (Below.setCell (Below.more bU2 b3) (Nat.le_refl _) _) (Nat.le_refl _) _
 obtain ⟨U3, hU⟩ : ∃ U, (w3.setCell ⟨U1.heap.size, 1, none⟩ (.string ⟨#[49]⟩)).setCell ⟨U1.heap.size, 2, none⟩ (.string ⟨#[49]⟩) = U := ⟨_, rfl⟩
 rw [hU] at rp bp ⊢
 clear hU rm rn b3 sU1 sU2 bU2
 have m0 := fun v (h : Below U3.heap.size U3 v) => rp v h 0 _ rfl
 have m1 := fun v (h : Below U3.heap.size U3 v) => rp v h 1 _ rfl
 have m2 := fun v (h : Below U3.heap.size U3 v) => rp v h 2 _ rfl
 have m3 := fun v (h : Below U3.heap.size U3 v) => rp v h 3 _ rfl
 have m4 := fun v (h : Below U3.heap.size U3 v) => rp v h 4 _ rfl
 have m5 := fun v (h : Below U3.heap.size U3 v) => rp v h 5 _ rfl
 have bq3 := Below.refl U3.heap.size U3
 have hb3 := Below.more b1 (Below.more bU1 bp)
 replace HG := Lib.hid (HB.out.below HG.out (Below.more bU1 bp))
 clear rp
 go_wp2_with fail
 have hx := ndsLit U3 [Tm.nodeX op a b] #[.int .i64 op, .string ⟨#[]⟩, .string ⟨#[]⟩, .string ⟨#[120]⟩, .int .i64 a, .int .i64 b] rfl
 have bz := Below.alloc (Below.refl U3.heap.size U3) (Nat.le_refl _) (.cells #[.int .i64 op, .string ⟨#[]⟩, .string ⟨#[]⟩, .string ⟨#[120]⟩, .int .i64 a, .int .i64 b] 41)
 obtain ⟨U4, hU⟩ : ∃ U, U3.alloc (.cells #[.int .i64 op, .string ⟨#[]⟩, .string ⟨#[]⟩, .string ⟨#[120]⟩, .int .i64 a, .int .i64 b] 41) = U := ⟨_, rfl⟩
 rw [hU] at hx bz ⊢
 clear hU
 refine (CX.out _ _ hx (HB.out.below HG.out bz)).mono ?_
 rintro e w5 ⟨rfl, b5⟩
 have c3 := Below.more bz b5
 have c1 := Below.more bp c3
 clear bq3 bp bz b5 hx
 go_wp2_with fail
 have hy := ndsLit w5 [Tm.nodeY op a b] #[.int .i64 op, .string ⟨#[49]⟩, .string ⟨#[49]⟩, .string ⟨#[120]⟩, .int .i64 a, .int .i64 b] rfl
 have bz := Below.alloc (Below.refl w5.heap.size w5) (Nat.le_refl _) (.cells #[.int .i64 op, .string ⟨#[49]⟩, .string ⟨#[49]⟩, .string ⟨#[120]⟩, .int .i64 a, .int .i64 b] 41)
 obtain ⟨U6, hU⟩ : ∃ U, w5.alloc (.cells #[.int .i64 op, .string ⟨#[49]⟩, .string ⟨#[49]⟩, .string ⟨#[120]⟩, .int .i64 a, .int .i64 b] 41) = U := ⟨_, rfl⟩
 rw [hU] at hy bz ⊢
 clear hU
 refine (CY.out _ _ hy (HB.out.below HG.out (Below.more c3 bz))).mono ?_
 rintro e w7 ⟨rfl, b7⟩
 go_wp2_with fail
 go_ret
 exact ⟨ret_bool (by first | rfl | (simp; done) | (simp; omega)), Below.more hb3 (Below.more c3 (Below.more bz b7))⟩
set_option maxRecDepth 100000 in
set_option maxHeartbeats 4000000 in
theorem nodes10_w1 (H : TermC G) (op a b : Int) (w : World) (ho : -9223372036854775808 ≤ op) (ho' : op ≤ 9223372036854775807) (hg : G w) (h0 : ¬ a < -2) (h1 : ¬ b < -2) (h2 : ¬ 10100 < a) (h3 : ¬ 10100 < b) (g0 : 2 ≤ op) (g1 : op ≤ 4) (g2 : ¬ 0 ≤ a) (g3 : ¬ op = 1) : Calls Tryz.prog 6 #[.int .i64 op, .int .i64 a, .int .i64 b] w (GiveB w true) := by
 have CX : Hid (∀ V q, Nds V q [Tm.nodeX op a b] → G V → Calls Tryz.prog 10 #[.slice q 1 1] V (GiveI V 100)) := Lib.hid fun V q h g => by
  have k := H.check q 1 [Tm.nodeX op a b] V (Nat.le_refl _) (show 1 ≤ 2000 by decide) (fun x hx => by rw [List.mem_singleton.1 hx]; exact ⟨⟨Nat.zero_le _, Nat.zero_le _, (by decide : 1 ≤ 100)⟩, ⟨ho, ho'⟩, ⟨show -9223372036854775808 ≤ a by omega, show a ≤ 9223372036854775807 by omega⟩, ⟨show -9223372036854775808 ≤ b by omega, show b ≤ 9223372036854775807 by omega⟩⟩) h g
  rw [Tm.nodeX_none (by omega)] at k
  exact k
 have CY : Hid (∀ V q, Nds V q [Tm.nodeY op a b] → G V → Calls Tryz.prog 10 #[.slice q 1 1] V (GiveI V 100)) := Lib.hid fun V q h g => by
  have k := H.check q 1 [Tm.nodeY op a b] V (Nat.le_refl _) (show 1 ≤ 2000 by decide) (fun x hx => by rw [List.mem_singleton.1 hx]; exact ⟨⟨(by decide : 1 ≤ 100), (by decide : 1 ≤ 100), (by decide : 1 ≤ 100)⟩, ⟨ho, ho'⟩, ⟨show -9223372036854775808 ≤ a by omega, show a ≤ 9223372036854775807 by omega⟩, ⟨show -9223372036854775808 ≤ b by omega, show b ≤ 9223372036854775807 by omega⟩⟩) h g
  rw [Tm.nodeY_none] at k
  exact k
 have e3 : ((op : Int) == 1) = false := beq_false_of_ne g3
 have HB := Lib.hid H; have HG := Lib.hid hg; clear H hg
 go_enter Tryz.func6, Tryz.ntmps6
 have b0 := Below.refl w.heap.size w
 go_wp2_with fail
 refine (fixed10_any HB.out _ HG.out).mono ?_
 rintro e w1 ⟨rfl, b⟩
 have b1 := Below.more b0 b
 replace HG := Lib.hid (HB.out.below HG.out b)
 clear b
 go_upto_region 4 with fail
 obtain ⟨U1, hU, bU1, sU1, rn⟩ := lay6z w1 (.int .i64 op) (.string ⟨#[]⟩) (.string ⟨#[]⟩) (.string ⟨#[120]⟩) (.int .i64 a) (.int .i64 b) 41
 rw [hU]; clear hU
 have n0 := fun v (h : Below U1.heap.size U1 v) => (rn v h 0 _ rfl).1
 have n1 := fun v (h : Below U1.heap.size U1 v) => (rn v h 1 _ rfl).1
 have n2 := fun v (h : Below U1.heap.size U1 v) => (rn v h 2 _ rfl).1
 have n3 := fun v (h : Below U1.heap.size U1 v) => (rn v h 3 _ rfl).1
 have n4 := fun v (h : Below U1.heap.size U1 v) => (rn v h 4 _ rfl).1
 have n5 := fun v (h : Below U1.heap.size U1 v) => (rn v h 5 _ rfl).1
 have bq1 := Below.refl U1.heap.size U1
 go_upto_region 5 with fail
 clear bq1
 obtain ⟨U2, hU, bU2, sU2, rm⟩ := lay6z U1 (.int .i64 op) (.string ⟨#[]⟩) (.string ⟨#[]⟩) (.string ⟨#[120]⟩) (.int .i64 a) (.int .i64 b) 41
 rw [hU]; clear hU
 go_wp2_with fail
 refine (kt_f 1 [49] (wd_const (by decide) (by decide)) (by decide) (by decide) _).mono ?_
 rintro e w3 ⟨rfl, b3⟩
 have z1 := (rm w3 b3 1 _ rfl).1; have z2 := (rm w3 b3 2 _ rfl).1; have f1 := (rm w3 b3 1 _ rfl).2; have f2 := (rm w3 b3 2 _ rfl).2
 go_upto_region 6 with fail
 clear z1 z2 f1 f2
 have rp := put6 (ya := .string ⟨#[49]⟩) (yb := .string ⟨#[49]⟩) (Nat.lt_of_lt_of_le sU2 b3.size) (fun j x e => (rm w3 b3 j x e).1)
 have bp : Below U1.heap.size U1 ((w3.setCell ⟨U1.heap.size, 1, none⟩ (.string ⟨#[49]⟩)).setCell ⟨U1.heap.size, 2, none⟩ (.string ⟨#[49]⟩)) := Below.setCell (Below.setCell (Below.more bU2 b3) (Nat.le_refl _) _) (Nat.le_refl _) _
 obtain ⟨U3, hU⟩ : ∃ U, (w3.setCell ⟨U1.heap.size, 1, none⟩ (.string ⟨#[49]⟩)).setCell ⟨U1.heap.size, 2, none⟩ (.string ⟨#[49]⟩) = U := ⟨_, rfl⟩
 rw [hU] at rp bp ⊢
 clear hU rm rn b3 sU1 sU2 bU2
 have m0 := fun v (h : Below U3.heap.size U3 v) => rp v h 0 _ rfl
 have m1 := fun v (h : Below U3.heap.size U3 v) => rp v h 1 _ rfl
 have m2 := fun v (h : Below U3.heap.size U3 v) => rp v h 2 _ rfl
 have m3 := fun v (h : Below U3.heap.size U3 v) => rp v h 3 _ rfl
 have m4 := fun v (h : Below U3.heap.size U3 v) => rp v h 4 _ rfl
 have m5 := fun v (h : Below U3.heap.size U3 v) => rp v h 5 _ rfl
 have bq3 := Below.refl U3.heap.size U3
 have hb3 := Below.more b1 (Below.more bU1 bp)
 replace HG := Lib.hid (HB.out.below HG.out (Below.more bU1 bp))
 clear rp
 go_wp2_with fail
 have hx := ndsLit U3 [Tm.nodeX op a b] #[.int .i64 op, .string ⟨#[]⟩, .string ⟨#[]⟩, .string ⟨#[120]⟩, .int .i64 a, .int .i64 b] rfl
 have bz := Below.alloc (Below.refl U3.heap.size U3) (Nat.le_refl _) (.cells #[.int .i64 op, .string ⟨#[]⟩, .string ⟨#[]⟩, .string ⟨#[120]⟩, .int .i64 a, .int .i64 b] 41)
 obtain ⟨U4, hU⟩ : ∃ U, U3.alloc (.cells #[.int .i64 op, .string ⟨#[]⟩, .string ⟨#[]⟩, .string ⟨#[120]⟩, .int .i64 a, .int .i64 b] 41) = U := ⟨_, rfl⟩
 rw [hU] at hx bz ⊢
 clear hU
 refine (CX.out _ _ hx (HB.out.below HG.out bz)).mono ?_
 rintro e w5 ⟨rfl, b5⟩
 have c3 := Below.more bz b5
 have c1 := Below.more bp c3
 clear bq3 bp bz b5 hx
 go_wp2_with fail
 have hy := ndsLit w5 [Tm.nodeY op a b] #[.int .i64 op, .string ⟨#[49]⟩, .string ⟨#[49]⟩, .string ⟨#[120]⟩, .int .i64 a, .int .i64 b] rfl
 have bz := Below.alloc (Below.refl w5.heap.size w5) (Nat.le_refl _) (.cells #[.int .i64 op, .string ⟨#[49]⟩, .string ⟨#[49]⟩, .string ⟨#[120]⟩, .int .i64 a, .int .i64 b] 41)
 obtain ⟨U6, hU⟩ : ∃ U, w5.alloc (.cells #[.int .i64 op, .string ⟨#[49]⟩, .string ⟨#[49]⟩, .string ⟨#[120]⟩, .int .i64 a, .int .i64 b] 41) = U := ⟨_, rfl⟩
 rw [hU] at hy bz ⊢
 clear hU
 refine (CY.out _ _ hy (HB.out.below HG.out (Below.more c3 bz))).mono ?_
 rintro e w7 ⟨rfl, b7⟩
 go_wp2_with fail
 go_ret
 exact ⟨ret_bool (by first | rfl | (simp; done) | (simp; omega)), Below.more hb3 (Below.more c3 (Below.more bz b7))⟩
set_option maxRecDepth 100000 in
set_option maxHeartbeats 4000000 in
theorem nodes10_w2 (H : TermC G) (op a b : Int) (w : World) (ho : -9223372036854775808 ≤ op) (ho' : op ≤ 9223372036854775807) (hg : G w) (h0 : ¬ a < -2) (h1 : ¬ b < -2) (h2 : ¬ 10100 < a) (h3 : ¬ 10100 < b) (g0 : 2 ≤ op) (g1 : op ≤ 4) (g2 : 0 ≤ a) (g3 : ¬ b ≤ 9999) (g4 : ¬ op = 1) : Calls Tryz.prog 6 #[.int .i64 op, .int .i64 a, .int .i64 b] w (GiveB w true) := by
 have CX : Hid (∀ V q, Nds V q [Tm.nodeX op a b] → G V → Calls Tryz.prog 10 #[.slice q 1 1] V (GiveI V 100)) := Lib.hid fun V q h g => by
  have k := H.check q 1 [Tm.nodeX op a b] V (Nat.le_refl _) (show 1 ≤ 2000 by decide) (fun x hx => by rw [List.mem_singleton.1 hx]; exact ⟨⟨Nat.zero_le _, Nat.zero_le _, (by decide : 1 ≤ 100)⟩, ⟨ho, ho'⟩, ⟨show -9223372036854775808 ≤ a by omega, show a ≤ 9223372036854775807 by omega⟩, ⟨show -9223372036854775808 ≤ b by omega, show b ≤ 9223372036854775807 by omega⟩⟩) h g
  rw [Tm.nodeX_none (by omega)] at k
  exact k
 have CY : Hid (∀ V q, Nds V q [Tm.nodeY op a b] → G V → Calls Tryz.prog 10 #[.slice q 1 1] V (GiveI V 100)) := Lib.hid fun V q h g => by
  have k := H.check q 1 [Tm.nodeY op a b] V (Nat.le_refl _) (show 1 ≤ 2000 by decide) (fun x hx => by rw [List.mem_singleton.1 hx]; exact ⟨⟨(by decide : 1 ≤ 100), (by decide : 1 ≤ 100), (by decide : 1 ≤ 100)⟩, ⟨ho, ho'⟩, ⟨show -9223372036854775808 ≤ a by omega, show a ≤ 9223372036854775807 by omega⟩, ⟨show -9223372036854775808 ≤ b by omega, show b ≤ 9223372036854775807 by omega⟩⟩) h g
  rw [Tm.nodeY_none] at k
  exact k
 have e4 : ((op : Int) == 1) = false := beq_false_of_ne g4
 have HB := Lib.hid H; have HG := Lib.hid hg; clear H hg
 go_enter Tryz.func6, Tryz.ntmps6
 have b0 := Below.refl w.heap.size w
 go_wp2_with fail
 refine (fixed10_any HB.out _ HG.out).mono ?_
 rintro e w1 ⟨rfl, b⟩
 have b1 := Below.more b0 b
 replace HG := Lib.hid (HB.out.below HG.out b)
 clear b
 go_upto_region 4 with fail
 obtain ⟨U1, hU, bU1, sU1, rn⟩ := lay6z w1 (.int .i64 op) (.string ⟨#[]⟩) (.string ⟨#[]⟩) (.string ⟨#[120]⟩) (.int .i64 a) (.int .i64 b) 41
 rw [hU]; clear hU
 have n0 := fun v (h : Below U1.heap.size U1 v) => (rn v h 0 _ rfl).1
 have n1 := fun v (h : Below U1.heap.size U1 v) => (rn v h 1 _ rfl).1
 have n2 := fun v (h : Below U1.heap.size U1 v) => (rn v h 2 _ rfl).1
 have n3 := fun v (h : Below U1.heap.size U1 v) => (rn v h 3 _ rfl).1
 have n4 := fun v (h : Below U1.heap.size U1 v) => (rn v h 4 _ rfl).1
 have n5 := fun v (h : Below U1.heap.size U1 v) => (rn v h 5 _ rfl).1
 have bq1 := Below.refl U1.heap.size U1
 go_upto_region 5 with fail
 clear bq1
 obtain ⟨U2, hU, bU2, sU2, rm⟩ := lay6z U1 (.int .i64 op) (.string ⟨#[]⟩) (.string ⟨#[]⟩) (.string ⟨#[120]⟩) (.int .i64 a) (.int .i64 b) 41
 rw [hU]; clear hU
 go_wp2_with fail
 refine (kt_f 1 [49] (wd_const (by decide) (by decide)) (by decide) (by decide) _).mono ?_
 rintro e w3 ⟨rfl, b3⟩
 have z1 := (rm w3 b3 1 _ rfl).1; have z2 := (rm w3 b3 2 _ rfl).1; have f1 := (rm w3 b3 1 _ rfl).2; have f2 := (rm w3 b3 2 _ rfl).2
 go_upto_region 6 with fail
 clear z1 z2 f1 f2
 have rp := put6 (ya := .string ⟨#[49]⟩) (yb := .string ⟨#[49]⟩) (Nat.lt_of_lt_of_le sU2 b3.size) (fun j x e => (rm w3 b3 j x e).1)
 have bp : Below U1.heap.size U1 ((w3.setCell ⟨U1.heap.size, 1, none⟩ (.string ⟨#[49]⟩)).setCell ⟨U1.heap.size, 2, none⟩ (.string ⟨#[49]⟩)) := Below.setCell (Below.setCell (Below.more bU2 b3) (Nat.le_refl _) _) (Nat.le_refl _) _
 obtain ⟨U3, hU⟩ : ∃ U, (w3.setCell ⟨U1.heap.size, 1, none⟩ (.string ⟨#[49]⟩)).setCell ⟨U1.heap.size, 2, none⟩ (.string ⟨#[49]⟩) = U := ⟨_, rfl⟩
 rw [hU] at rp bp ⊢
 clear hU rm rn b3 sU1 sU2 bU2
 have m0 := fun v (h : Below U3.heap.size U3 v) => rp v h 0 _ rfl
 have m1 := fun v (h : Below U3.heap.size U3 v) => rp v h 1 _ rfl
 have m2 := fun v (h : Below U3.heap.size U3 v) => rp v h 2 _ rfl
 have m3 := fun v (h : Below U3.heap.size U3 v) => rp v h 3 _ rfl
 have m4 := fun v (h : Below U3.heap.size U3 v) => rp v h 4 _ rfl
 have m5 := fun v (h : Below U3.heap.size U3 v) => rp v h 5 _ rfl
 have bq3 := Below.refl U3.heap.size U3
 have hb3 := Below.more b1 (Below.more bU1 bp)
 replace HG := Lib.hid (HB.out.below HG.out (Below.more bU1 bp))
 clear rp
 go_wp2_with fail
 have hx := ndsLit U3 [Tm.nodeX op a b] #[.int .i64 op, .string ⟨#[]⟩, .string ⟨#[]⟩, .string ⟨#[120]⟩, .int .i64 a, .int .i64 b] rfl
 have bz := Below.alloc (Below.refl U3.heap.size U3) (Nat.le_refl _) (.cells #[.int .i64 op, .string ⟨#[]⟩, .string ⟨#[]⟩, .string ⟨#[120]⟩, .int .i64 a, .int .i64 b] 41)
 obtain ⟨U4, hU⟩ : ∃ U, U3.alloc (.cells #[.int .i64 op, .string ⟨#[]⟩, .string ⟨#[]⟩, .string ⟨#[120]⟩, .int .i64 a, .int .i64 b] 41) = U := ⟨_, rfl⟩
 rw [hU] at hx bz ⊢
 clear hU
 refine (CX.out _ _ hx (HB.out.below HG.out bz)).mono ?_
 rintro e w5 ⟨rfl, b5⟩
 have c3 := Below.more bz b5
 have c1 := Below.more bp c3
 clear bq3 bp bz b5 hx
 go_wp2_with fail
 have hy := ndsLit w5 [Tm.nodeY op a b] #[.int .i64 op, .string ⟨#[49]⟩, .string ⟨#[49]⟩, .string ⟨#[120]⟩, .int .i64 a, .int .i64 b] rfl
 have bz := Below.alloc (Below.refl w5.heap.size w5) (Nat.le_refl _) (.cells #[.int .i64 op, .string ⟨#[49]⟩, .string ⟨#[49]⟩, .string ⟨#[120]⟩, .int .i64 a, .int .i64 b] 41)
 obtain ⟨U6, hU⟩ : ∃ U, w5.alloc (.cells #[.int .i64 op, .string ⟨#[49]⟩, .string ⟨#[49]⟩, .string ⟨#[120]⟩, .int .i64 a, .int .i64 b] 41) = U := ⟨_, rfl⟩
 rw [hU] at hy bz ⊢
 clear hU
 refine (CY.out _ _ hy (HB.out.below HG.out (Below.more c3 bz))).mono ?_
 rintro e w7 ⟨rfl, b7⟩
 go_wp2_with fail
 go_ret
 exact ⟨ret_bool (by first | rfl | (simp; done) | (simp; omega)), Below.more hb3 (Below.more c3 (Below.more bz b7))⟩
set_option maxRecDepth 100000 in
set_option maxHeartbeats 4000000 in
theorem nodes10_w3 (H : TermC G) (op a b : Int) (w : World) (ho : -9223372036854775808 ≤ op) (ho' : op ≤ 9223372036854775807) (hg : G w) (h0 : ¬ a < -2) (h1 : ¬ b < -2) (h2 : ¬ 10100 < a) (h3 : ¬ 10100 < b) (g0 : 2 ≤ op) (g1 : op ≤ 4) (g2 : 0 ≤ a) (g3 : b ≤ 9999) (g4 : ¬ a ≤ b) (g5 : ¬ op = 1) : Calls Tryz.prog 6 #[.int .i64 op, .int .i64 a, .int .i64 b] w (GiveB w true) := by
 have CX : Hid (∀ V q, Nds V q [Tm.nodeX op a b] → G V → Calls Tryz.prog 10 #[.slice q 1 1] V (GiveI V 100)) := Lib.hid fun V q h g => by
  have k := H.check q 1 [Tm.nodeX op a b] V (Nat.le_refl _) (show 1 ≤ 2000 by decide) (fun x hx => by rw [List.mem_singleton.1 hx]; exact ⟨⟨Nat.zero_le _, Nat.zero_le _, (by decide : 1 ≤ 100)⟩, ⟨ho, ho'⟩, ⟨show -9223372036854775808 ≤ a by omega, show a ≤ 9223372036854775807 by omega⟩, ⟨show -9223372036854775808 ≤ b by omega, show b ≤ 9223372036854775807 by omega⟩⟩) h g
  rw [Tm.nodeX_none (by omega)] at k
  exact k
 have CY : Hid (∀ V q, Nds V q [Tm.nodeY op a b] → G V → Calls Tryz.prog 10 #[.slice q 1 1] V (GiveI V 100)) := Lib.hid fun V q h g => by
  have k := H.check q 1 [Tm.nodeY op a b] V (Nat.le_refl _) (show 1 ≤ 2000 by decide) (fun x hx => by rw [List.mem_singleton.1 hx]; exact ⟨⟨(by decide : 1 ≤ 100), (by decide : 1 ≤ 100), (by decide : 1 ≤ 100)⟩, ⟨ho, ho'⟩, ⟨show -9223372036854775808 ≤ a by omega, show a ≤ 9223372036854775807 by omega⟩, ⟨show -9223372036854775808 ≤ b by omega, show b ≤ 9223372036854775807 by omega⟩⟩) h g
  rw [Tm.nodeY_none] at k
  exact k
 have e5 : ((op : Int) == 1) = false := beq_false_of_ne g5
 have HB := Lib.hid H; have HG := Lib.hid hg; clear H hg
 go_enter Tryz.func6, Tryz.ntmps6
 have b0 := Below.refl w.heap.size w
 go_wp2_with fail
 refine (fixed10_any HB.out _ HG.out).mono ?_
 rintro e w1 ⟨rfl, b⟩
 have b1 := Below.more b0 b
 replace HG := Lib.hid (HB.out.below HG.out b)
 clear b
 go_upto_region 4 with fail
 obtain ⟨U1, hU, bU1, sU1, rn⟩ := lay6z w1 (.int .i64 op) (.string ⟨#[]⟩) (.string ⟨#[]⟩) (.string ⟨#[120]⟩) (.int .i64 a) (.int .i64 b) 41
 rw [hU]; clear hU
 have n0 := fun v (h : Below U1.heap.size U1 v) => (rn v h 0 _ rfl).1
 have n1 := fun v (h : Below U1.heap.size U1 v) => (rn v h 1 _ rfl).1
 have n2 := fun v (h : Below U1.heap.size U1 v) => (rn v h 2 _ rfl).1
 have n3 := fun v (h : Below U1.heap.size U1 v) => (rn v h 3 _ rfl).1
 have n4 := fun v (h : Below U1.heap.size U1 v) => (rn v h 4 _ rfl).1
 have n5 := fun v (h : Below U1.heap.size U1 v) => (rn v h 5 _ rfl).1
 have bq1 := Below.refl U1.heap.size U1
 go_upto_region 5 with fail
 clear bq1
 obtain ⟨U2, hU, bU2, sU2, rm⟩ := lay6z U1 (.int .i64 op) (.string ⟨#[]⟩) (.string ⟨#[]⟩) (.string ⟨#[120]⟩) (.int .i64 a) (.int .i64 b) 41
 rw [hU]; clear hU
 go_wp2_with fail
 refine (kt_f 1 [49] (wd_const (by decide) (by decide)) (by decide) (by decide) _).mono ?_
 rintro e w3 ⟨rfl, b3⟩
 have z1 := (rm w3 b3 1 _ rfl).1; have z2 := (rm w3 b3 2 _ rfl).1; have f1 := (rm w3 b3 1 _ rfl).2; have f2 := (rm w3 b3 2 _ rfl).2
 go_upto_region 6 with fail
 clear z1 z2 f1 f2
 have rp := put6 (ya := .string ⟨#[49]⟩) (yb := .string ⟨#[49]⟩) (Nat.lt_of_lt_of_le sU2 b3.size) (fun j x e => (rm w3 b3 j x e).1)
 have bp : Below U1.heap.size U1 ((w3.setCell ⟨U1.heap.size, 1, none⟩ (.string ⟨#[49]⟩)).setCell ⟨U1.heap.size, 2, none⟩ (.string ⟨#[49]⟩)) := Below.setCell (Below.setCell (Below.more bU2 b3) (Nat.le_refl _) _) (Nat.le_refl _) _
 obtain ⟨U3, hU⟩ : ∃ U, (w3.setCell ⟨U1.heap.size, 1, none⟩ (.string ⟨#[49]⟩)).setCell ⟨U1.heap.size, 2, none⟩ (.string ⟨#[49]⟩) = U := ⟨_, rfl⟩
 rw [hU] at rp bp ⊢
 clear hU rm rn b3 sU1 sU2 bU2
 have m0 := fun v (h : Below U3.heap.size U3 v) => rp v h 0 _ rfl
 have m1 := fun v (h : Below U3.heap.size U3 v) => rp v h 1 _ rfl
 have m2 := fun v (h : Below U3.heap.size U3 v) => rp v h 2 _ rfl
 have m3 := fun v (h : Below U3.heap.size U3 v) => rp v h 3 _ rfl
 have m4 := fun v (h : Below U3.heap.size U3 v) => rp v h 4 _ rfl
 have m5 := fun v (h : Below U3.heap.size U3 v) => rp v h 5 _ rfl
 have bq3 := Below.refl U3.heap.size U3
 have hb3 := Below.more b1 (Below.more bU1 bp)
 replace HG := Lib.hid (HB.out.below HG.out (Below.more bU1 bp))
 clear rp
 go_wp2_with fail
 have hx := ndsLit U3 [Tm.nodeX op a b] #[.int .i64 op, .string ⟨#[]⟩, .string ⟨#[]⟩, .string ⟨#[120]⟩, .int .i64 a, .int .i64 b] rfl
 have bz := Below.alloc (Below.refl U3.heap.size U3) (Nat.le_refl _) (.cells #[.int .i64 op, .string ⟨#[]⟩, .string ⟨#[]⟩, .string ⟨#[120]⟩, .int .i64 a, .int .i64 b] 41)
 obtain ⟨U4, hU⟩ : ∃ U, U3.alloc (.cells #[.int .i64 op, .string ⟨#[]⟩, .string ⟨#[]⟩, .string ⟨#[120]⟩, .int .i64 a, .int .i64 b] 41) = U := ⟨_, rfl⟩
 rw [hU] at hx bz ⊢
 clear hU
 refine (CX.out _ _ hx (HB.out.below HG.out bz)).mono ?_
 rintro e w5 ⟨rfl, b5⟩
 have c3 := Below.more bz b5
 have c1 := Below.more bp c3
 clear bq3 bp bz b5 hx
 go_wp2_with fail
 have hy := ndsLit w5 [Tm.nodeY op a b] #[.int .i64 op, .string ⟨#[49]⟩, .string ⟨#[49]⟩, .string ⟨#[120]⟩, .int .i64 a, .int .i64 b] rfl
 have bz := Below.alloc (Below.refl w5.heap.size w5) (Nat.le_refl _) (.cells #[.int .i64 op, .string ⟨#[49]⟩, .string ⟨#[49]⟩, .string ⟨#[120]⟩, .int .i64 a, .int .i64 b] 41)
 obtain ⟨U6, hU⟩ : ∃ U, w5.alloc (.cells #[.int .i64 op, .string ⟨#[49]⟩, .string ⟨#[49]⟩, .string ⟨#[120]⟩, .int .i64 a, .int .i64 b] 41) = U := ⟨_, rfl⟩
 rw [hU] at hy bz ⊢
 clear hU
 refine (CY.out _ _ hy (HB.out.below HG.out (Below.more c3 bz))).mono ?_
 rintro e w7 ⟨rfl, b7⟩
 go_wp2_with fail
 go_ret
 exact ⟨ret_bool (by first | rfl | (simp; done) | (simp; omega)), Below.more hb3 (Below.more c3 (Below.more bz b7))⟩
set_option maxRecDepth 100000 in
set_option maxHeartbeats 4000000 in
theorem nodes10_w4 (H : TermC G) (op a b : Int) (w : World) (ho : -9223372036854775808 ≤ op) (ho' : op ≤ 9223372036854775807) (hg : G w) (h0 : ¬ a < -2) (h1 : ¬ b < -2) (h2 : ¬ 10100 < a) (h3 : ¬ 10100 < b) (g0 : 2 ≤ op) (g1 : op ≤ 4) (g2 : 0 ≤ a) (g3 : b ≤ 9999) (g4 : a ≤ b) (g5 : ¬ b - a ≤ 59) (g6 : ¬ op = 1) : Calls Tryz.prog 6 #[.int .i64 op, .int .i64 a, .int .i64 b] w (GiveB w true) := by
 have CX : Hid (∀ V q, Nds V q [Tm.nodeX op a b] → G V → Calls Tryz.prog 10 #[.slice q 1 1] V (GiveI V 100)) := Lib.hid fun V q h g => by
  have k := H.check q 1 [Tm.nodeX op a b] V (Nat.le_refl _) (show 1 ≤ 2000 by decide) (fun x hx => by rw [List.mem_singleton.1 hx]; exact ⟨⟨Nat.zero_le _, Nat.zero_le _, (by decide : 1 ≤ 100)⟩, ⟨ho, ho'⟩, ⟨show -9223372036854775808 ≤ a by omega, show a ≤ 9223372036854775807 by omega⟩, ⟨show -9223372036854775808 ≤ b by omega, show b ≤ 9223372036854775807 by omega⟩⟩) h g
  rw [Tm.nodeX_none (by omega)] at k
  exact k
 have CY : Hid (∀ V q, Nds V q [Tm.nodeY op a b] → G V → Calls Tryz.prog 10 #[.slice q 1 1] V (GiveI V 100)) := Lib.hid fun V q h g => by
  have k := H.check q 1 [Tm.nodeY op a b] V (Nat.le_refl _) (show 1 ≤ 2000 by decide) (fun x hx => by rw [List.mem_singleton.1 hx]; exact ⟨⟨(by decide : 1 ≤ 100), (by decide : 1 ≤ 100), (by decide : 1 ≤ 100)⟩, ⟨ho, ho'⟩, ⟨show -9223372036854775808 ≤ a by omega, show a ≤ 9223372036854775807 by omega⟩, ⟨show -9223372036854775808 ≤ b by omega, show b ≤ 9223372036854775807 by omega⟩⟩) h g
  rw [Tm.nodeY_none] at k
  exact k
 have e6 : ((op : Int) == 1) = false := beq_false_of_ne g6
 have hwr : wrap64 (b - a) = b - a := IntWalk.wrap64_in _ ⟨by omega, by omega⟩
 have HB := Lib.hid H; have HG := Lib.hid hg; clear H hg
 go_enter Tryz.func6, Tryz.ntmps6
 have b0 := Below.refl w.heap.size w
 go_wp2_with fail
 refine (fixed10_any HB.out _ HG.out).mono ?_
 rintro e w1 ⟨rfl, b⟩
 have b1 := Below.more b0 b
 replace HG := Lib.hid (HB.out.below HG.out b)
 clear b
 go_upto_region 4 with fail
 obtain ⟨U1, hU, bU1, sU1, rn⟩ := lay6z w1 (.int .i64 op) (.string ⟨#[]⟩) (.string ⟨#[]⟩) (.string ⟨#[120]⟩) (.int .i64 a) (.int .i64 b) 41
 rw [hU]; clear hU
 have n0 := fun v (h : Below U1.heap.size U1 v) => (rn v h 0 _ rfl).1
 have n1 := fun v (h : Below U1.heap.size U1 v) => (rn v h 1 _ rfl).1
 have n2 := fun v (h : Below U1.heap.size U1 v) => (rn v h 2 _ rfl).1
 have n3 := fun v (h : Below U1.heap.size U1 v) => (rn v h 3 _ rfl).1
 have n4 := fun v (h : Below U1.heap.size U1 v) => (rn v h 4 _ rfl).1
 have n5 := fun v (h : Below U1.heap.size U1 v) => (rn v h 5 _ rfl).1
 have bq1 := Below.refl U1.heap.size U1
 go_upto_region 5 with fail
 clear bq1
 obtain ⟨U2, hU, bU2, sU2, rm⟩ := lay6z U1 (.int .i64 op) (.string ⟨#[]⟩) (.string ⟨#[]⟩) (.string ⟨#[120]⟩) (.int .i64 a) (.int .i64 b) 41
 rw [hU]; clear hU
 go_wp2_with fail
 refine (kt_f 1 [49] (wd_const (by decide) (by decide)) (by decide) (by decide) _).mono ?_
 rintro e w3 ⟨rfl, b3⟩
 have z1 := (rm w3 b3 1 _ rfl).1; have z2 := (rm w3 b3 2 _ rfl).1; have f1 := (rm w3 b3 1 _ rfl).2; have f2 := (rm w3 b3 2 _ rfl).2
 go_upto_region 6 with fail
 clear z1 z2 f1 f2
 have rp := put6 (ya := .string ⟨#[49]⟩) (yb := .string ⟨#[49]⟩) (Nat.lt_of_lt_of_le sU2 b3.size) (fun j x e => (rm w3 b3 j x e).1)
 have bp : Below U1.heap.size U1 ((w3.setCell ⟨U1.heap.size, 1, none⟩ (.string ⟨#[49]⟩)).setCell ⟨U1.heap.size, 2, none⟩ (.string ⟨#[49]⟩)) := Below.setCell (Below.setCell (Below.more bU2 b3) (Nat.le_refl _) _) (Nat.le_refl _) _
 obtain ⟨U3, hU⟩ : ∃ U, (w3.setCell ⟨U1.heap.size, 1, none⟩ (.string ⟨#[49]⟩)).setCell ⟨U1.heap.size, 2, none⟩ (.string ⟨#[49]⟩) = U := ⟨_, rfl⟩
 rw [hU] at rp bp ⊢
 clear hU rm rn b3 sU1 sU2 bU2
 have m0 := fun v (h : Below U3.heap.size U3 v) => rp v h 0 _ rfl
 have m1 := fun v (h : Below U3.heap.size U3 v) => rp v h 1 _ rfl
 have m2 := fun v (h : Below U3.heap.size U3 v) => rp v h 2 _ rfl
 have m3 := fun v (h : Below U3.heap.size U3 v) => rp v h 3 _ rfl
 have m4 := fun v (h : Below U3.heap.size U3 v) => rp v h 4 _ rfl
 have m5 := fun v (h : Below U3.heap.size U3 v) => rp v h 5 _ rfl
 have bq3 := Below.refl U3.heap.size U3
 have hb3 := Below.more b1 (Below.more bU1 bp)
 replace HG := Lib.hid (HB.out.below HG.out (Below.more bU1 bp))
 clear rp
 go_wp2_with fail
 have hx := ndsLit U3 [Tm.nodeX op a b] #[.int .i64 op, .string ⟨#[]⟩, .string ⟨#[]⟩, .string ⟨#[120]⟩, .int .i64 a, .int .i64 b] rfl
 have bz := Below.alloc (Below.refl U3.heap.size U3) (Nat.le_refl _) (.cells #[.int .i64 op, .string ⟨#[]⟩, .string ⟨#[]⟩, .string ⟨#[120]⟩, .int .i64 a, .int .i64 b] 41)
 obtain ⟨U4, hU⟩ : ∃ U, U3.alloc (.cells #[.int .i64 op, .string ⟨#[]⟩, .string ⟨#[]⟩, .string ⟨#[120]⟩, .int .i64 a, .int .i64 b] 41) = U := ⟨_, rfl⟩
 rw [hU] at hx bz ⊢
 clear hU
 refine (CX.out _ _ hx (HB.out.below HG.out bz)).mono ?_
 rintro e w5 ⟨rfl, b5⟩
 have c3 := Below.more bz b5
 have c1 := Below.more bp c3
 clear bq3 bp bz b5 hx
 go_wp2_with fail
 have hy := ndsLit w5 [Tm.nodeY op a b] #[.int .i64 op, .string ⟨#[49]⟩, .string ⟨#[49]⟩, .string ⟨#[120]⟩, .int .i64 a, .int .i64 b] rfl
 have bz := Below.alloc (Below.refl w5.heap.size w5) (Nat.le_refl _) (.cells #[.int .i64 op, .string ⟨#[49]⟩, .string ⟨#[49]⟩, .string ⟨#[120]⟩, .int .i64 a, .int .i64 b] 41)
 obtain ⟨U6, hU⟩ : ∃ U, w5.alloc (.cells #[.int .i64 op, .string ⟨#[49]⟩, .string ⟨#[49]⟩, .string ⟨#[120]⟩, .int .i64 a, .int .i64 b] 41) = U := ⟨_, rfl⟩
 rw [hU] at hy bz ⊢
 clear hU
 refine (CY.out _ _ hy (HB.out.below HG.out (Below.more c3 bz))).mono ?_
 rintro e w7 ⟨rfl, b7⟩
 go_wp2_with fail
 go_ret
 exact ⟨ret_bool (by first | rfl | (simp; done) | (simp; omega)), Below.more hb3 (Below.more c3 (Below.more bz b7))⟩
set_option maxRecDepth 100000 in
set_option maxHeartbeats 4000000 in
theorem nodes10_w5 (H : TermC G) (op a b : Int) (w : World) (ho : -9223372036854775808 ≤ op) (ho' : op ≤ 9223372036854775807) (hg : G w) (h0 : ¬ a < -2) (h1 : ¬ b < -2) (h2 : ¬ 10100 < a) (h3 : ¬ 10100 < b) (g0 : 2 ≤ op) (g1 : op ≤ 4) (g2 : 0 ≤ a) (g3 : b ≤ 9999) (g4 : a ≤ b) (g5 : b - a ≤ 59) (g6 : ¬ op = 1) : Calls Tryz.prog 6 #[.int .i64 op, .int .i64 a, .int .i64 b] w (GiveB w true) := by
 have CX : Hid (∀ V q, Nds V q [Tm.nodeX op a b] → G V → Calls Tryz.prog 10 #[.slice q 1 1] V (GiveI V 0)) := Lib.hid fun V q h g => by
  have k := H.check q 1 [Tm.nodeX op a b] V (Nat.le_refl _) (show 1 ≤ 2000 by decide) (fun x hx => by rw [List.mem_singleton.1 hx]; exact ⟨⟨Nat.zero_le _, Nat.zero_le _, (by decide : 1 ≤ 100)⟩, ⟨ho, ho'⟩, ⟨show -9223372036854775808 ≤ a by omega, show a ≤ 9223372036854775807 by omega⟩, ⟨show -9223372036854775808 ≤ b by omega, show b ≤ 9223372036854775807 by omega⟩⟩) h g
  rw [Tm.nodeX_check (by omega)] at k
  exact k
 have CY : Hid (∀ V q, Nds V q [Tm.nodeY op a b] → G V → Calls Tryz.prog 10 #[.slice q 1 1] V (GiveI V 100)) := Lib.hid fun V q h g => by
  have k := H.check q 1 [Tm.nodeY op a b] V (Nat.le_refl _) (show 1 ≤ 2000 by decide) (fun x hx => by rw [List.mem_singleton.1 hx]; exact ⟨⟨(by decide : 1 ≤ 100), (by decide : 1 ≤ 100), (by decide : 1 ≤ 100)⟩, ⟨ho, ho'⟩, ⟨show -9223372036854775808 ≤ a by omega, show a ≤ 9223372036854775807 by omega⟩, ⟨show -9223372036854775808 ≤ b by omega, show b ≤ 9223372036854775807 by omega⟩⟩) h g
  rw [Tm.nodeY_none] at k
  exact k
 have e6 : ((op : Int) == 1) = false := beq_false_of_ne g6
 have hwr : wrap64 (b - a) = b - a := IntWalk.wrap64_in _ ⟨by omega, by omega⟩
 have HB := Lib.hid H; have HG := Lib.hid hg; clear H hg
 go_enter Tryz.func6, Tryz.ntmps6
 have b0 := Below.refl w.heap.size w
 go_wp2_with fail
 refine (fixed10_any HB.out _ HG.out).mono ?_
 rintro e w1 ⟨rfl, b⟩
 have b1 := Below.more b0 b
 replace HG := Lib.hid (HB.out.below HG.out b)
 clear b
 go_upto_region 4 with fail
 obtain ⟨U1, hU, bU1, sU1, rn⟩ := lay6z w1 (.int .i64 op) (.string ⟨#[]⟩) (.string ⟨#[]⟩) (.string ⟨#[120]⟩) (.int .i64 a) (.int .i64 b) 41
 rw [hU]; clear hU
 have n0 := fun v (h : Below U1.heap.size U1 v) => (rn v h 0 _ rfl).1
 have n1 := fun v (h : Below U1.heap.size U1 v) => (rn v h 1 _ rfl).1
 have n2 := fun v (h : Below U1.heap.size U1 v) => (rn v h 2 _ rfl).1
 have n3 := fun v (h : Below U1.heap.size U1 v) => (rn v h 3 _ rfl).1
 have n4 := fun v (h : Below U1.heap.size U1 v) => (rn v h 4 _ rfl).1
 have n5 := fun v (h : Below U1.heap.size U1 v) => (rn v h 5 _ rfl).1
 have bq1 := Below.refl U1.heap.size U1
 go_upto_region 5 with fail
 clear bq1
 obtain ⟨U2, hU, bU2, sU2, rm⟩ := lay6z U1 (.int .i64 op) (.string ⟨#[]⟩) (.string ⟨#[]⟩) (.string ⟨#[120]⟩) (.int .i64 a) (.int .i64 b) 41
 rw [hU]; clear hU
 go_wp2_with fail
 refine (kt_f 1 [49] (wd_const (by decide) (by decide)) (by decide) (by decide) _).mono ?_
 rintro e w3 ⟨rfl, b3⟩
 have z1 := (rm w3 b3 1 _ rfl).1; have z2 := (rm w3 b3 2 _ rfl).1; have f1 := (rm w3 b3 1 _ rfl).2; have f2 := (rm w3 b3 2 _ rfl).2
 go_upto_region 6 with fail
 clear z1 z2 f1 f2
 have rp := put6 (ya := .string ⟨#[49]⟩) (yb := .string ⟨#[49]⟩) (Nat.lt_of_lt_of_le sU2 b3.size) (fun j x e => (rm w3 b3 j x e).1)
 have bp : Below U1.heap.size U1 ((w3.setCell ⟨U1.heap.size, 1, none⟩ (.string ⟨#[49]⟩)).setCell ⟨U1.heap.size, 2, none⟩ (.string ⟨#[49]⟩)) := Below.setCell (Below.setCell (Below.more bU2 b3) (Nat.le_refl _) _) (Nat.le_refl _) _
 obtain ⟨U3, hU⟩ : ∃ U, (w3.setCell ⟨U1.heap.size, 1, none⟩ (.string ⟨#[49]⟩)).setCell ⟨U1.heap.size, 2, none⟩ (.string ⟨#[49]⟩) = U := ⟨_, rfl⟩
 rw [hU] at rp bp ⊢
 clear hU rm rn b3 sU1 sU2 bU2
 have m0 := fun v (h : Below U3.heap.size U3 v) => rp v h 0 _ rfl
 have m1 := fun v (h : Below U3.heap.size U3 v) => rp v h 1 _ rfl
 have m2 := fun v (h : Below U3.heap.size U3 v) => rp v h 2 _ rfl
 have m3 := fun v (h : Below U3.heap.size U3 v) => rp v h 3 _ rfl
 have m4 := fun v (h : Below U3.heap.size U3 v) => rp v h 4 _ rfl
 have m5 := fun v (h : Below U3.heap.size U3 v) => rp v h 5 _ rfl
 have bq3 := Below.refl U3.heap.size U3
 have hb3 := Below.more b1 (Below.more bU1 bp)
 replace HG := Lib.hid (HB.out.below HG.out (Below.more bU1 bp))
 clear rp
 go_wp2_with fail
 have hx := ndsLit U3 [Tm.nodeX op a b] #[.int .i64 op, .string ⟨#[]⟩, .string ⟨#[]⟩, .string ⟨#[120]⟩, .int .i64 a, .int .i64 b] rfl
 have bz := Below.alloc (Below.refl U3.heap.size U3) (Nat.le_refl _) (.cells #[.int .i64 op, .string ⟨#[]⟩, .string ⟨#[]⟩, .string ⟨#[120]⟩, .int .i64 a, .int .i64 b] 41)
 obtain ⟨U4, hU⟩ : ∃ U, U3.alloc (.cells #[.int .i64 op, .string ⟨#[]⟩, .string ⟨#[]⟩, .string ⟨#[120]⟩, .int .i64 a, .int .i64 b] 41) = U := ⟨_, rfl⟩
 rw [hU] at hx bz ⊢
 clear hU
 refine (CX.out _ _ hx (HB.out.below HG.out bz)).mono ?_
 rintro e w5 ⟨rfl, b5⟩
 have c3 := Below.more bz b5
 have c1 := Below.more bp c3
 clear bq3 bp bz b5 hx
 go_wp2_with fail
 have hy := ndsLit w5 [Tm.nodeY op a b] #[.int .i64 op, .string ⟨#[49]⟩, .string ⟨#[49]⟩, .string ⟨#[120]⟩, .int .i64 a, .int .i64 b] rfl
 have bz := Below.alloc (Below.refl w5.heap.size w5) (Nat.le_refl _) (.cells #[.int .i64 op, .string ⟨#[49]⟩, .string ⟨#[49]⟩, .string ⟨#[120]⟩, .int .i64 a, .int .i64 b] 41)
 obtain ⟨U6, hU⟩ : ∃ U, w5.alloc (.cells #[.int .i64 op, .string ⟨#[49]⟩, .string ⟨#[49]⟩, .string ⟨#[120]⟩, .int .i64 a, .int .i64 b] 41) = U := ⟨_, rfl⟩
 rw [hU] at hy bz ⊢
 clear hU
 refine (CY.out _ _ hy (HB.out.below HG.out (Below.more c3 bz))).mono ?_
 rintro e w7 ⟨rfl, b7⟩
 go_wp2_with fail
 go_ret
 exact ⟨ret_bool (by first | rfl | (simp; done) | (simp; omega)), Below.more hb3 (Below.more c3 (Below.more bz b7))⟩
set_option maxRecDepth 100000 in
set_option maxHeartbeats 4000000 in
theorem nodes10_w6 (H : TermC G) (op a b : Int) (w : World) (ho : -9223372036854775808 ≤ op) (ho' : op ≤ 9223372036854775807) (hg : G w) (h0 : ¬ a < -2) (h1 : ¬ b < -2) (h2 : ¬ 10100 < a) (h3 : ¬ 10100 < b) (g0 : ¬ 2 ≤ op) (g1 : ¬ op = 1) : Calls Tryz.prog 6 #[.int .i64 op, .int .i64 a, .int .i64 b] w (GiveB w true) := by
 have CX : Hid (∀ V q, Nds V q [Tm.nodeX op a b] → G V → Calls Tryz.prog 10 #[.slice q 1 1] V (GiveI V 100)) := Lib.hid fun V q h g => by
  have k := H.check q 1 [Tm.nodeX op a b] V (Nat.le_refl _) (show 1 ≤ 2000 by decide) (fun x hx => by rw [List.mem_singleton.1 hx]; exact ⟨⟨Nat.zero_le _, Nat.zero_le _, (by decide : 1 ≤ 100)⟩, ⟨ho, ho'⟩, ⟨show -9223372036854775808 ≤ a by omega, show a ≤ 9223372036854775807 by omega⟩, ⟨show -9223372036854775808 ≤ b by omega, show b ≤ 9223372036854775807 by omega⟩⟩) h g
  rw [Tm.nodeX_none (by omega)] at k
  exact k
 have CY : Hid (∀ V q, Nds V q [Tm.nodeY op a b] → G V → Calls Tryz.prog 10 #[.slice q 1 1] V (GiveI V 100)) := Lib.hid fun V q h g => by
  have k := H.check q 1 [Tm.nodeY op a b] V (Nat.le_refl _) (show 1 ≤ 2000 by decide) (fun x hx => by rw [List.mem_singleton.1 hx]; exact ⟨⟨(by decide : 1 ≤ 100), (by decide : 1 ≤ 100), (by decide : 1 ≤ 100)⟩, ⟨ho, ho'⟩, ⟨show -9223372036854775808 ≤ a by omega, show a ≤ 9223372036854775807 by omega⟩, ⟨show -9223372036854775808 ≤ b by omega, show b ≤ 9223372036854775807 by omega⟩⟩) h g
  rw [Tm.nodeY_none] at k
  exact k
 have e1 : ((op : Int) == 1) = false := beq_false_of_ne g1
 have HB := Lib.hid H; have HG := Lib.hid hg; clear H hg
 go_enter Tryz.func6, Tryz.ntmps6
 have b0 := Below.refl w.heap.size w
 go_wp2_with fail
 refine (fixed10_any HB.out _ HG.out).mono ?_
 rintro e w1 ⟨rfl, b⟩
 have b1 := Below.more b0 b
 replace HG := Lib.hid (HB.out.below HG.out b)
 clear b
 go_upto_region 4 with fail
 obtain ⟨U1, hU, bU1, sU1, rn⟩ := lay6z w1 (.int .i64 op) (.string ⟨#[]⟩) (.string ⟨#[]⟩) (.string ⟨#[120]⟩) (.int .i64 a) (.int .i64 b) 41
 rw [hU]; clear hU
 have n0 := fun v (h : Below U1.heap.size U1 v) => (rn v h 0 _ rfl).1
 have n1 := fun v (h : Below U1.heap.size U1 v) => (rn v h 1 _ rfl).1
 have n2 := fun v (h : Below U1.heap.size U1 v) => (rn v h 2 _ rfl).1
 have n3 := fun v (h : Below U1.heap.size U1 v) => (rn v h 3 _ rfl).1
 have n4 := fun v (h : Below U1.heap.size U1 v) => (rn v h 4 _ rfl).1
 have n5 := fun v (h : Below U1.heap.size U1 v) => (rn v h 5 _ rfl).1
 have bq1 := Below.refl U1.heap.size U1
 go_upto_region 5 with fail
 clear bq1
 obtain ⟨U2, hU, bU2, sU2, rm⟩ := lay6z U1 (.int .i64 op) (.string ⟨#[]⟩) (.string ⟨#[]⟩) (.string ⟨#[120]⟩) (.int .i64 a) (.int .i64 b) 41
 rw [hU]; clear hU
 go_wp2_with fail
 refine (kt_f 1 [49] (wd_const (by decide) (by decide)) (by decide) (by decide) _).mono ?_
 rintro e w3 ⟨rfl, b3⟩
 have z1 := (rm w3 b3 1 _ rfl).1; have z2 := (rm w3 b3 2 _ rfl).1; have f1 := (rm w3 b3 1 _ rfl).2; have f2 := (rm w3 b3 2 _ rfl).2
 go_upto_region 6 with fail
 clear z1 z2 f1 f2
 have rp := put6 (ya := .string ⟨#[49]⟩) (yb := .string ⟨#[49]⟩) (Nat.lt_of_lt_of_le sU2 b3.size) (fun j x e => (rm w3 b3 j x e).1)
 have bp : Below U1.heap.size U1 ((w3.setCell ⟨U1.heap.size, 1, none⟩ (.string ⟨#[49]⟩)).setCell ⟨U1.heap.size, 2, none⟩ (.string ⟨#[49]⟩)) := Below.setCell (Below.setCell (Below.more bU2 b3) (Nat.le_refl _) _) (Nat.le_refl _) _
 obtain ⟨U3, hU⟩ : ∃ U, (w3.setCell ⟨U1.heap.size, 1, none⟩ (.string ⟨#[49]⟩)).setCell ⟨U1.heap.size, 2, none⟩ (.string ⟨#[49]⟩) = U := ⟨_, rfl⟩
 rw [hU] at rp bp ⊢
 clear hU rm rn b3 sU1 sU2 bU2
 have m0 := fun v (h : Below U3.heap.size U3 v) => rp v h 0 _ rfl
 have m1 := fun v (h : Below U3.heap.size U3 v) => rp v h 1 _ rfl
 have m2 := fun v (h : Below U3.heap.size U3 v) => rp v h 2 _ rfl
 have m3 := fun v (h : Below U3.heap.size U3 v) => rp v h 3 _ rfl
 have m4 := fun v (h : Below U3.heap.size U3 v) => rp v h 4 _ rfl
 have m5 := fun v (h : Below U3.heap.size U3 v) => rp v h 5 _ rfl
 have bq3 := Below.refl U3.heap.size U3
 have hb3 := Below.more b1 (Below.more bU1 bp)
 replace HG := Lib.hid (HB.out.below HG.out (Below.more bU1 bp))
 clear rp
 go_wp2_with fail
 have hx := ndsLit U3 [Tm.nodeX op a b] #[.int .i64 op, .string ⟨#[]⟩, .string ⟨#[]⟩, .string ⟨#[120]⟩, .int .i64 a, .int .i64 b] rfl
 have bz := Below.alloc (Below.refl U3.heap.size U3) (Nat.le_refl _) (.cells #[.int .i64 op, .string ⟨#[]⟩, .string ⟨#[]⟩, .string ⟨#[120]⟩, .int .i64 a, .int .i64 b] 41)
 obtain ⟨U4, hU⟩ : ∃ U, U3.alloc (.cells #[.int .i64 op, .string ⟨#[]⟩, .string ⟨#[]⟩, .string ⟨#[120]⟩, .int .i64 a, .int .i64 b] 41) = U := ⟨_, rfl⟩
 rw [hU] at hx bz ⊢
 clear hU
 refine (CX.out _ _ hx (HB.out.below HG.out bz)).mono ?_
 rintro e w5 ⟨rfl, b5⟩
 have c3 := Below.more bz b5
 have c1 := Below.more bp c3
 clear bq3 bp bz b5 hx
 go_wp2_with fail
 have hy := ndsLit w5 [Tm.nodeY op a b] #[.int .i64 op, .string ⟨#[49]⟩, .string ⟨#[49]⟩, .string ⟨#[120]⟩, .int .i64 a, .int .i64 b] rfl
 have bz := Below.alloc (Below.refl w5.heap.size w5) (Nat.le_refl _) (.cells #[.int .i64 op, .string ⟨#[49]⟩, .string ⟨#[49]⟩, .string ⟨#[120]⟩, .int .i64 a, .int .i64 b] 41)
 obtain ⟨U6, hU⟩ : ∃ U, w5.alloc (.cells #[.int .i64 op, .string ⟨#[49]⟩, .string ⟨#[49]⟩, .string ⟨#[120]⟩, .int .i64 a, .int .i64 b] 41) = U := ⟨_, rfl⟩
 rw [hU] at hy bz ⊢
 clear hU
 refine (CY.out _ _ hy (HB.out.below HG.out (Below.more c3 bz))).mono ?_
 rintro e w7 ⟨rfl, b7⟩
 go_wp2_with fail
 go_ret
 exact ⟨ret_bool (by first | rfl | (simp; done) | (simp; omega)), Below.more hb3 (Below.more c3 (Below.more bz b7))⟩
set_option maxRecDepth 100000 in
set_option maxHeartbeats 4000000 in
theorem nodes10_w7 (H : TermC G) (op a b : Int) (w : World) (ho : -9223372036854775808 ≤ op) (ho' : op ≤ 9223372036854775807) (hg : G w) (h0 : ¬ a < -2) (h1 : ¬ b < -2) (h2 : ¬ 10100 < a) (h3 : ¬ 10100 < b) (g0 : ¬ 2 ≤ op) (g1 : op = 1) (g2 : ¬ 0 ≤ a) : Calls Tryz.prog 6 #[.int .i64 op, .int .i64 a, .int .i64 b] w (GiveB w true) := by
 have CX : Hid (∀ V q, Nds V q [Tm.nodeX op a b] → G V → Calls Tryz.prog 10 #[.slice q 1 1] V (GiveI V 100)) := Lib.hid fun V q h g => by
  have k := H.check q 1 [Tm.nodeX op a b] V (Nat.le_refl _) (show 1 ≤ 2000 by decide) (fun x hx => by rw [List.mem_singleton.1 hx]; exact ⟨⟨Nat.zero_le _, Nat.zero_le _, (by decide : 1 ≤ 100)⟩, ⟨ho, ho'⟩, ⟨show -9223372036854775808 ≤ a by omega, show a ≤ 9223372036854775807 by omega⟩, ⟨show -9223372036854775808 ≤ b by omega, show b ≤ 9223372036854775807 by omega⟩⟩) h g
  rw [Tm.nodeX_none (by omega)] at k
  exact k
 have CY : Hid (∀ V q, Nds V q [Tm.nodeY op a b] → G V → Calls Tryz.prog 10 #[.slice q 1 1] V (GiveI V 100)) := Lib.hid fun V q h g => by
  have k := H.check q 1 [Tm.nodeY op a b] V (Nat.le_refl _) (show 1 ≤ 2000 by decide) (fun x hx => by rw [List.mem_singleton.1 hx]; exact ⟨⟨(by decide : 1 ≤ 100), (by decide : 1 ≤ 100), (by decide : 1 ≤ 100)⟩, ⟨ho, ho'⟩, ⟨show -9223372036854775808 ≤ a by omega, show a ≤ 9223372036854775807 by omega⟩, ⟨show -9223372036854775808 ≤ b by omega, show b ≤ 9223372036854775807 by omega⟩⟩) h g
  rw [Tm.nodeY_none] at k
  exact k
 have e1 : ((op : Int) == 1) = true := beq_iff_eq.2 g1
 clear g1
 have HB := Lib.hid H; have HG := Lib.hid hg; clear H hg
 go_enter Tryz.func6, Tryz.ntmps6
 have b0 := Below.refl w.heap.size w
 go_wp2_with fail
 refine (fixed10_any HB.out _ HG.out).mono ?_
 rintro e w1 ⟨rfl, b⟩
 have b1 := Below.more b0 b
 replace HG := Lib.hid (HB.out.below HG.out b)
 clear b
 go_upto_region 4 with fail
 obtain ⟨U1, hU, bU1, sU1, rn⟩ := lay6z w1 (.int .i64 op) (.string ⟨#[]⟩) (.string ⟨#[]⟩) (.string ⟨#[120]⟩) (.int .i64 a) (.int .i64 b) 41
 rw [hU]; clear hU
 have n0 := fun v (h : Below U1.heap.size U1 v) => (rn v h 0 _ rfl).1
 have n1 := fun v (h : Below U1.heap.size U1 v) => (rn v h 1 _ rfl).1
 have n2 := fun v (h : Below U1.heap.size U1 v) => (rn v h 2 _ rfl).1
 have n3 := fun v (h : Below U1.heap.size U1 v) => (rn v h 3 _ rfl).1
 have n4 := fun v (h : Below U1.heap.size U1 v) => (rn v h 4 _ rfl).1
 have n5 := fun v (h : Below U1.heap.size U1 v) => (rn v h 5 _ rfl).1
 have bq1 := Below.refl U1.heap.size U1
 go_upto_region 5 with fail
 clear bq1
 obtain ⟨U2, hU, bU2, sU2, rm⟩ := lay6z U1 (.int .i64 op) (.string ⟨#[]⟩) (.string ⟨#[]⟩) (.string ⟨#[120]⟩) (.int .i64 a) (.int .i64 b) 41
 rw [hU]; clear hU
 go_wp2_with fail
 refine (kt_f 1 [49] (wd_const (by decide) (by decide)) (by decide) (by decide) _).mono ?_
 rintro e w3 ⟨rfl, b3⟩
 have z1 := (rm w3 b3 1 _ rfl).1; have z2 := (rm w3 b3 2 _ rfl).1; have f1 := (rm w3 b3 1 _ rfl).2; have f2 := (rm w3 b3 2 _ rfl).2
 go_upto_region 6 with fail
 clear z1 z2 f1 f2
 have rp := put6 (ya := .string ⟨#[49]⟩) (yb := .string ⟨#[49]⟩) (Nat.lt_of_lt_of_le sU2 b3.size) (fun j x e => (rm w3 b3 j x e).1)
 have bp : Below U1.heap.size U1 ((w3.setCell ⟨U1.heap.size, 1, none⟩ (.string ⟨#[49]⟩)).setCell ⟨U1.heap.size, 2, none⟩ (.string ⟨#[49]⟩)) := Below.setCell (Below.setCell (Below.more bU2 b3) (Nat.le_refl _) _) (Nat.le_refl _) _
 obtain ⟨U3, hU⟩ : ∃ U, (w3.setCell ⟨U1.heap.size, 1, none⟩ (.string ⟨#[49]⟩)).setCell ⟨U1.heap.size, 2, none⟩ (.string ⟨#[49]⟩) = U := ⟨_, rfl⟩
 rw [hU] at rp bp ⊢
 clear hU rm rn b3 sU1 sU2 bU2
 have m0 := fun v (h : Below U3.heap.size U3 v) => rp v h 0 _ rfl
 have m1 := fun v (h : Below U3.heap.size U3 v) => rp v h 1 _ rfl
 have m2 := fun v (h : Below U3.heap.size U3 v) => rp v h 2 _ rfl
 have m3 := fun v (h : Below U3.heap.size U3 v) => rp v h 3 _ rfl
 have m4 := fun v (h : Below U3.heap.size U3 v) => rp v h 4 _ rfl
 have m5 := fun v (h : Below U3.heap.size U3 v) => rp v h 5 _ rfl
 have bq3 := Below.refl U3.heap.size U3
 have hb3 := Below.more b1 (Below.more bU1 bp)
 replace HG := Lib.hid (HB.out.below HG.out (Below.more bU1 bp))
 clear rp
 go_wp2_with fail
 have hx := ndsLit U3 [Tm.nodeX op a b] #[.int .i64 op, .string ⟨#[]⟩, .string ⟨#[]⟩, .string ⟨#[120]⟩, .int .i64 a, .int .i64 b] rfl
 have bz := Below.alloc (Below.refl U3.heap.size U3) (Nat.le_refl _) (.cells #[.int .i64 op, .string ⟨#[]⟩, .string ⟨#[]⟩, .string ⟨#[120]⟩, .int .i64 a, .int .i64 b] 41)
 obtain ⟨U4, hU⟩ : ∃ U, U3.alloc (.cells #[.int .i64 op, .string ⟨#[]⟩, .string ⟨#[]⟩, .string ⟨#[120]⟩, .int .i64 a, .int .i64 b] 41) = U := ⟨_, rfl⟩
 rw [hU] at hx bz ⊢
 clear hU
 refine (CX.out _ _ hx (HB.out.below HG.out bz)).mono ?_
 rintro e w5 ⟨rfl, b5⟩
 have c3 := Below.more bz b5
 have c1 := Below.more bp c3
 clear bq3 bp bz b5 hx
 go_wp2_with fail
 have hy := ndsLit w5 [Tm.nodeY op a b] #[.int .i64 op, .string ⟨#[49]⟩, .string ⟨#[49]⟩, .string ⟨#[120]⟩, .int .i64 a, .int .i64 b] rfl
 have bz := Below.alloc (Below.refl w5.heap.size w5) (Nat.le_refl _) (.cells #[.int .i64 op, .string ⟨#[49]⟩, .string ⟨#[49]⟩, .string ⟨#[120]⟩, .int .i64 a, .int .i64 b] 41)
 obtain ⟨U6, hU⟩ : ∃ U, w5.alloc (.cells #[.int .i64 op, .string ⟨#[49]⟩, .string ⟨#[49]⟩, .string ⟨#[120]⟩, .int .i64 a, .int .i64 b] 41) = U := ⟨_, rfl⟩
 rw [hU] at hy bz ⊢
 clear hU
 refine (CY.out _ _ hy (HB.out.below HG.out (Below.more c3 bz))).mono ?_
 rintro e w7 ⟨rfl, b7⟩
 go_wp2_with fail
 go_ret
 exact ⟨ret_bool (by first | rfl | (simp; done) | (simp; omega)), Below.more hb3 (Below.more c3 (Below.more bz b7))⟩
set_option maxRecDepth 100000 in
set_option maxHeartbeats 4000000 in
theorem nodes10_w8 (H : TermC G) (op a b : Int) (w : World) (ho : -9223372036854775808 ≤ op) (ho' : op ≤ 9223372036854775807) (hg : G w) (h0 : ¬ a < -2) (h1 : ¬ b < -2) (h2 : ¬ 10100 < a) (h3 : ¬ 10100 < b) (g0 : ¬ 2 ≤ op) (g1 : op = 1) (g2 : 0 ≤ a) (g3 : ¬ a ≤ 9999) : Calls Tryz.prog 6 #[.int .i64 op, .int .i64 a, .int .i64 b] w (GiveB w true) := by
 have CX : Hid (∀ V q, Nds V q [Tm.nodeX op a b] → G V → Calls Tryz.prog 10 #[.slice q 1 1] V (GiveI V 100)) := Lib.hid fun V q h g => by
  have k := H.check q 1 [Tm.nodeX op a b] V (Nat.le_refl _) (show 1 ≤ 2000 by decide) (fun x hx => by rw [List.mem_singleton.1 hx]; exact ⟨⟨Nat.zero_le _, Nat.zero_le _, (by decide : 1 ≤ 100)⟩, ⟨ho, ho'⟩, ⟨show -9223372036854775808 ≤ a by omega, show a ≤ 9223372036854775807 by omega⟩, ⟨show -9223372036854775808 ≤ b by omega, show b ≤ 9223372036854775807 by omega⟩⟩) h g
  rw [Tm.nodeX_none (by omega)] at k
  exact k
 have CY : Hid (∀ V q, Nds V q [Tm.nodeY op a b] → G V → Calls Tryz.prog 10 #[.slice q 1 1] V (GiveI V 100)) := Lib.hid fun V q h g => by
  have k := H.check q 1 [Tm.nodeY op a b] V (Nat.le_refl _) (show 1 ≤ 2000 by decide) (fun x hx => by rw [List.mem_singleton.1 hx]; exact ⟨⟨(by decide : 1 ≤ 100), (by decide : 1 ≤ 100), (by decide : 1 ≤ 100)⟩, ⟨ho, ho'⟩, ⟨show -9223372036854775808 ≤ a by omega, show a ≤ 9223372036854775807 by omega⟩, ⟨show -9223372036854775808 ≤ b by omega, show b ≤ 9223372036854775807 by omega⟩⟩) h g
  rw [Tm.nodeY_none] at k
  exact k
 have e1 : ((op : Int) == 1) = true := beq_iff_eq.2 g1
 clear g1
 have HB := Lib.hid H; have HG := Lib.hid hg; clear H hg
 go_enter Tryz.func6, Tryz.ntmps6
 have b0 := Below.refl w.heap.size w
 go_wp2_with fail
 refine (fixed10_any HB.out _ HG.out).mono ?_
 rintro e w1 ⟨rfl, b⟩
 have b1 := Below.more b0 b
 replace HG := Lib.hid (HB.out.below HG.out b)
 clear b
 go_upto_region 4 with fail
 obtain ⟨U1, hU, bU1, sU1, rn⟩ := lay6z w1 (.int .i64 op) (.string ⟨#[]⟩) (.string ⟨#[]⟩) (.string ⟨#[120]⟩) (.int .i64 a) (.int .i64 b) 41
 rw [hU]; clear hU
 have n0 := fun v (h : Below U1.heap.size U1 v) => (rn v h 0 _ rfl).1
 have n1 := fun v (h : Below U1.heap.size U1 v) => (rn v h 1 _ rfl).1
 have n2 := fun v (h : Below U1.heap.size U1 v) => (rn v h 2 _ rfl).1
 have n3 := fun v (h : Below U1.heap.size U1 v) => (rn v h 3 _ rfl).1
 have n4 := fun v (h : Below U1.heap.size U1 v) => (rn v h 4 _ rfl).1
 have n5 := fun v (h : Below U1.heap.size U1 v) => (rn v h 5 _ rfl).1
 have bq1 := Below.refl U1.heap.size U1
 go_upto_region 5 with fail
 clear bq1
 obtain ⟨U2, hU, bU2, sU2, rm⟩ := lay6z U1 (.int .i64 op) (.string ⟨#[]⟩) (.string ⟨#[]⟩) (.string ⟨#[120]⟩) (.int .i64 a) (.int .i64 b) 41
 rw [hU]; clear hU
 go_wp2_with fail
 refine (kt_f 1 [49] (wd_const (by decide) (by decide)) (by decide) (by decide) _).mono ?_
 rintro e w3 ⟨rfl, b3⟩
 have z1 := (rm w3 b3 1 _ rfl).1; have z2 := (rm w3 b3 2 _ rfl).1; have f1 := (rm w3 b3 1 _ rfl).2; have f2 := (rm w3 b3 2 _ rfl).2
 go_upto_region 6 with fail
 clear z1 z2 f1 f2
 have rp := put6 (ya := .string ⟨#[49]⟩) (yb := .string ⟨#[49]⟩) (Nat.lt_of_lt_of_le sU2 b3.size) (fun j x e => (rm w3 b3 j x e).1)
 have bp : Below U1.heap.size U1 ((w3.setCell ⟨U1.heap.size, 1, none⟩ (.string ⟨#[49]⟩)).setCell ⟨U1.heap.size, 2, none⟩ (.string ⟨#[49]⟩)) := Below.setCell (Below.setCell (Below.more bU2 b3) (Nat.le_refl _) _) (Nat.le_refl _) _
 obtain ⟨U3, hU⟩ : ∃ U, (w3.setCell ⟨U1.heap.size, 1, none⟩ (.string ⟨#[49]⟩)).setCell ⟨U1.heap.size, 2, none⟩ (.string ⟨#[49]⟩) = U := ⟨_, rfl⟩
 rw [hU] at rp bp ⊢
 clear hU rm rn b3 sU1 sU2 bU2
 have m0 := fun v (h : Below U3.heap.size U3 v) => rp v h 0 _ rfl
 have m1 := fun v (h : Below U3.heap.size U3 v) => rp v h 1 _ rfl
 have m2 := fun v (h : Below U3.heap.size U3 v) => rp v h 2 _ rfl
 have m3 := fun v (h : Below U3.heap.size U3 v) => rp v h 3 _ rfl
 have m4 := fun v (h : Below U3.heap.size U3 v) => rp v h 4 _ rfl
 have m5 := fun v (h : Below U3.heap.size U3 v) => rp v h 5 _ rfl
 have bq3 := Below.refl U3.heap.size U3
 have hb3 := Below.more b1 (Below.more bU1 bp)
 replace HG := Lib.hid (HB.out.below HG.out (Below.more bU1 bp))
 clear rp
 go_wp2_with fail
 have hx := ndsLit U3 [Tm.nodeX op a b] #[.int .i64 op, .string ⟨#[]⟩, .string ⟨#[]⟩, .string ⟨#[120]⟩, .int .i64 a, .int .i64 b] rfl
 have bz := Below.alloc (Below.refl U3.heap.size U3) (Nat.le_refl _) (.cells #[.int .i64 op, .string ⟨#[]⟩, .string ⟨#[]⟩, .string ⟨#[120]⟩, .int .i64 a, .int .i64 b] 41)
 obtain ⟨U4, hU⟩ : ∃ U, U3.alloc (.cells #[.int .i64 op, .string ⟨#[]⟩, .string ⟨#[]⟩, .string ⟨#[120]⟩, .int .i64 a, .int .i64 b] 41) = U := ⟨_, rfl⟩
 rw [hU] at hx bz ⊢
 clear hU
 refine (CX.out _ _ hx (HB.out.below HG.out bz)).mono ?_
 rintro e w5 ⟨rfl, b5⟩
 have c3 := Below.more bz b5
 have c1 := Below.more bp c3
 clear bq3 bp bz b5 hx
 go_wp2_with fail
 have hy := ndsLit w5 [Tm.nodeY op a b] #[.int .i64 op, .string ⟨#[49]⟩, .string ⟨#[49]⟩, .string ⟨#[120]⟩, .int .i64 a, .int .i64 b] rfl
 have bz := Below.alloc (Below.refl w5.heap.size w5) (Nat.le_refl _) (.cells #[.int .i64 op, .string ⟨#[49]⟩, .string ⟨#[49]⟩, .string ⟨#[120]⟩, .int .i64 a, .int .i64 b] 41)
 obtain ⟨U6, hU⟩ : ∃ U, w5.alloc (.cells #[.int .i64 op, .string ⟨#[49]⟩, .string ⟨#[49]⟩, .string ⟨#[120]⟩, .int .i64 a, .int .i64 b] 41) = U := ⟨_, rfl⟩
 rw [hU] at hy bz ⊢
 clear hU
 refine (CY.out _ _ hy (HB.out.below HG.out (Below.more c3 bz))).mono ?_
 rintro e w7 ⟨rfl, b7⟩
 go_wp2_with fail
 go_ret
 exact ⟨ret_bool (by first | rfl | (simp; done) | (simp; omega)), Below.more hb3 (Below.more c3 (Below.more bz b7))⟩
set_option maxRecDepth 100000 in
set_option maxHeartbeats 4000000 in
theorem nodes10_w9 (H : TermC G) (op a b : Int) (w : World) (ho : -9223372036854775808 ≤ op) (ho' : op ≤ 9223372036854775807) (hg : G w) (h0 : ¬ a < -2) (h1 : ¬ b < -2) (h2 : ¬ 10100 < a) (h3 : ¬ 10100 < b) (g0 : ¬ 2 ≤ op) (g1 : op = 1) (g2 : 0 ≤ a) (g3 : a ≤ 9999) (g4 : ¬ b = 0) : Calls Tryz.prog 6 #[.int .i64 op, .int .i64 a, .int .i64 b] w (GiveB w true) := by
 have CX : Hid (∀ V q, Nds V q [Tm.nodeX op a b] → G V → Calls Tryz.prog 10 #[.slice q 1 1] V (GiveI V 100)) := Lib.hid fun V q h g => by
  have k := H.check q 1 [Tm.nodeX op a b] V (Nat.le_refl _) (show 1 ≤ 2000 by decide) (fun x hx => by rw [List.mem_singleton.1 hx]; exact ⟨⟨Nat.zero_le _, Nat.zero_le _, (by decide : 1 ≤ 100)⟩, ⟨ho, ho'⟩, ⟨show -9223372036854775808 ≤ a by omega, show a ≤ 9223372036854775807 by omega⟩, ⟨show -9223372036854775808 ≤ b by omega, show b ≤ 9223372036854775807 by omega⟩⟩) h g
  rw [Tm.nodeX_none (by omega)] at k
  exact k
 have CY : Hid (∀ V q, Nds V q [Tm.nodeY op a b] → G V → Calls Tryz.prog 10 #[.slice q 1 1] V (GiveI V 100)) := Lib.hid fun V q h g => by
  have k := H.check q 1 [Tm.nodeY op a b] V (Nat.le_refl _) (show 1 ≤ 2000 by decide) (fun x hx => by rw [List.mem_singleton.1 hx]; exact ⟨⟨(by decide : 1 ≤ 100), (by decide : 1 ≤ 100), (by decide : 1 ≤ 100)⟩, ⟨ho, ho'⟩, ⟨show -9223372036854775808 ≤ a by omega, show a ≤ 9223372036854775807 by omega⟩, ⟨show -9223372036854775808 ≤ b by omega, show b ≤ 9223372036854775807 by omega⟩⟩) h g
  rw [Tm.nodeY_none] at k
  exact k
 have e1 : ((op : Int) == 1) = true := beq_iff_eq.2 g1
 have e4 : ((b : Int) == 0) = false := beq_false_of_ne g4
 clear g1
 have HB := Lib.hid H; have HG := Lib.hid hg; clear H hg
 go_enter Tryz.func6, Tryz.ntmps6
 have b0 := Below.refl w.heap.size w
 go_wp2_with fail
 refine (fixed10_any HB.out _ HG.out).mono ?_
 rintro e w1 ⟨rfl, b⟩
 have b1 := Below.more b0 b
 replace HG := Lib.hid (HB.out.below HG.out b)
 clear b
 go_upto_region 4 with fail
 obtain ⟨U1, hU, bU1, sU1, rn⟩ := lay6z w1 (.int .i64 op) (.string ⟨#[]⟩) (.string ⟨#[]⟩) (.string ⟨#[120]⟩) (.int .i64 a) (.int .i64 b) 41
 rw [hU]; clear hU
 have n0 := fun v (h : Below U1.heap.size U1 v) => (rn v h 0 _ rfl).1
 have n1 := fun v (h : Below U1.heap.size U1 v) => (rn v h 1 _ rfl).1
 have n2 := fun v (h : Below U1.heap.size U1 v) => (rn v h 2 _ rfl).1
 have n3 := fun v (h : Below U1.heap.size U1 v) => (rn v h 3 _ rfl).1
 have n4 := fun v (h : Below U1.heap.size U1 v) => (rn v h 4 _ rfl).1
 have n5 := fun v (h : Below U1.heap.size U1 v) => (rn v h 5 _ rfl).1
 have bq1 := Below.refl U1.heap.size U1
 go_upto_region 5 with fail
 clear bq1
 obtain ⟨U2, hU, bU2, sU2, rm⟩ := lay6z U1 (.int .i64 op) (.string ⟨#[]⟩) (.string ⟨#[]⟩) (.string ⟨#[120]⟩) (.int .i64 a) (.int .i64 b) 41
 rw [hU]; clear hU
 go_wp2_with fail
 refine (kt_f 1 [49] (wd_const (by decide) (by decide)) (by decide) (by decide) _).mono ?_
 rintro e w3 ⟨rfl, b3⟩
 have z1 := (rm w3 b3 1 _ rfl).1; have z2 := (rm w3 b3 2 _ rfl).1; have f1 := (rm w3 b3 1 _ rfl).2; have f2 := (rm w3 b3 2 _ rfl).2
 go_upto_region 6 with fail
 clear z1 z2 f1 f2
 have rp := put6 (ya := .string ⟨#[49]⟩) (yb := .string ⟨#[49]⟩) (Nat.lt_of_lt_of_le sU2 b3.size) (fun j x e => (rm w3 b3 j x e).1)
 have bp : Below U1.heap.size U1 ((w3.setCell ⟨U1.heap.size, 1, none⟩ (.string ⟨#[49]⟩)).setCell ⟨U1.heap.size, 2, none⟩ (.string ⟨#[49]⟩)) := Below.setCell (Below.setCell (Below.more bU2 b3) (Nat.le_refl _) _) (Nat.le_refl _) _
 obtain ⟨U3, hU⟩ : ∃ U, (w3.setCell ⟨U1.heap.size, 1, none⟩ (.string ⟨#[49]⟩)).setCell ⟨U1.heap.size, 2, none⟩ (.string ⟨#[49]⟩) = U := ⟨_, rfl⟩
 rw [hU] at rp bp ⊢
 clear hU rm rn b3 sU1 sU2 bU2
 have m0 := fun v (h : Below U3.heap.size U3 v) => rp v h 0 _ rfl
 have m1 := fun v (h : Below U3.heap.size U3 v) => rp v h 1 _ rfl
 have m2 := fun v (h : Below U3.heap.size U3 v) => rp v h 2 _ rfl
 have m3 := fun v (h : Below U3.heap.size U3 v) => rp v h 3 _ rfl
 have m4 := fun v (h : Below U3.heap.size U3 v) => rp v h 4 _ rfl
 have m5 := fun v (h : Below U3.heap.size U3 v) => rp v h 5 _ rfl
 have bq3 := Below.refl U3.heap.size U3
 have hb3 := Below.more b1 (Below.more bU1 bp)
 replace HG := Lib.hid (HB.out.below HG.out (Below.more bU1 bp))
 clear rp
 go_wp2_with fail
 have hx := ndsLit U3 [Tm.nodeX op a b] #[.int .i64 op, .string ⟨#[]⟩, .string ⟨#[]⟩, .string ⟨#[120]⟩, .int .i64 a, .int .i64 b] rfl
 have bz := Below.alloc (Below.refl U3.heap.size U3) (Nat.le_refl _) (.cells #[.int .i64 op, .string ⟨#[]⟩, .string ⟨#[]⟩, .string ⟨#[120]⟩, .int .i64 a, .int .i64 b] 41)
 obtain ⟨U4, hU⟩ : ∃ U, U3.alloc (.cells #[.int .i64 op, .string ⟨#[]⟩, .string ⟨#[]⟩, .string ⟨#[120]⟩, .int .i64 a, .int .i64 b] 41) = U := ⟨_, rfl⟩
 rw [hU] at hx bz ⊢
 clear hU
 refine (CX.out _ _ hx (HB.out.below HG.out bz)).mono ?_
 rintro e w5 ⟨rfl, b5⟩
 have c3 := Below.more bz b5
 have c1 := Below.more bp c3
 clear bq3 bp bz b5 hx
 go_wp2_with fail
 have hy := ndsLit w5 [Tm.nodeY op a b] #[.int .i64 op, .string ⟨#[49]⟩, .string ⟨#[49]⟩, .string ⟨#[120]⟩, .int .i64 a, .int .i64 b] rfl
 have bz := Below.alloc (Below.refl w5.heap.size w5) (Nat.le_refl _) (.cells #[.int .i64 op, .string ⟨#[49]⟩, .string ⟨#[49]⟩, .string ⟨#[120]⟩, .int .i64 a, .int .i64 b] 41)
 obtain ⟨U6, hU⟩ : ∃ U, w5.alloc (.cells #[.int .i64 op, .string ⟨#[49]⟩, .string ⟨#[49]⟩, .string ⟨#[120]⟩, .int .i64 a, .int .i64 b] 41) = U := ⟨_, rfl⟩
 rw [hU] at hy bz ⊢
 clear hU
 refine (CY.out _ _ hy (HB.out.below HG.out (Below.more c3 bz))).mono ?_
 rintro e w7 ⟨rfl, b7⟩
 go_wp2_with fail
 go_ret
 exact ⟨ret_bool (by first | rfl | (simp; done) | (simp; omega)), Below.more hb3 (Below.more c3 (Below.more bz b7))⟩
set_option maxRecDepth 100000 in
set_option maxHeartbeats 4000000 in
theorem nodes10_w10 (H : TermC G) (op a b : Int) (w : World) (ho : -9223372036854775808 ≤ op) (ho' : op ≤ 9223372036854775807) (hg : G w) (h0 : ¬ a < -2) (h1 : ¬ b < -2) (h2 : ¬ 10100 < a) (h3 : ¬ 10100 < b) (g0 : ¬ 2 ≤ op) (g1 : op = 1) (g2 : 0 ≤ a) (g3 : a ≤ 9999) (g4 : b = 0) : Calls Tryz.prog 6 #[.int .i64 op, .int .i64 a, .int .i64 b] w (GiveB w true) := by
 have CX : Hid (∀ V q, Nds V q [Tm.nodeX op a b] → G V → Calls Tryz.prog 10 #[.slice q 1 1] V (GiveI V 0)) := Lib.hid fun V q h g => by
  have k := H.check q 1 [Tm.nodeX op a b] V (Nat.le_refl _) (show 1 ≤ 2000 by decide) (fun x hx => by rw [List.mem_singleton.1 hx]; exact ⟨⟨Nat.zero_le _, Nat.zero_le _, (by decide : 1 ≤ 100)⟩, ⟨ho, ho'⟩, ⟨show -9223372036854775808 ≤ a by omega, show a ≤ 9223372036854775807 by omega⟩, ⟨show -9223372036854775808 ≤ b by omega, show b ≤ 9223372036854775807 by omega⟩⟩) h g
  rw [Tm.nodeX_check (by omega)] at k
  exact k
 have CY : Hid (∀ V q, Nds V q [Tm.nodeY op a b] → G V → Calls Tryz.prog 10 #[.slice q 1 1] V (GiveI V 100)) := Lib.hid fun V q h g => by
  have k := H.check q 1 [Tm.nodeY op a b] V (Nat.le_refl _) (show 1 ≤ 2000 by decide) (fun x hx => by rw [List.mem_singleton.1 hx]; exact ⟨⟨(by decide : 1 ≤ 100), (by decide : 1 ≤ 100), (by decide : 1 ≤ 100)⟩, ⟨ho, ho'⟩, ⟨show -9223372036854775808 ≤ a by omega, show a ≤ 9223372036854775807 by omega⟩, ⟨show -9223372036854775808 ≤ b by omega, show b ≤ 9223372036854775807 by omega⟩⟩) h g
  rw [Tm.nodeY_none] at k
  exact k
 have e1 : ((op : Int) == 1) = true := beq_iff_eq.2 g1
 have e4 : ((b : Int) == 0) = true := beq_iff_eq.2 g4
 clear g1
 clear g4
 have HB := Lib.hid H; have HG := Lib.hid hg; clear H hg
 go_enter Tryz.func6, Tryz.ntmps6
 have b0 := Below.refl w.heap.size w
 go_wp2_with fail
 refine (fixed10_any HB.out _ HG.out).mono ?_
 rintro e w1 ⟨rfl, b⟩
 have b1 := Below.more b0 b
 replace HG := Lib.hid (HB.out.below HG.out b)
 clear b
 go_upto_region 4 with fail
 obtain ⟨U1, hU, bU1, sU1, rn⟩ := lay6z w1 (.int .i64 op) (.string ⟨#[]⟩) (.string ⟨#[]⟩) (.string ⟨#[120]⟩) (.int .i64 a) (.int .i64 b) 41
 rw [hU]; clear hU
 have n0 := fun v (h : Below U1.heap.size U1 v) => (rn v h 0 _ rfl).1
 have n1 := fun v (h : Below U1.heap.size U1 v) => (rn v h 1 _ rfl).1
 have n2 := fun v (h : Below U1.heap.size U1 v) => (rn v h 2 _ rfl).1
 have n3 := fun v (h : Below U1.heap.size U1 v) => (rn v h 3 _ rfl).1
 have n4 := fun v (h : Below U1.heap.size U1 v) => (rn v h 4 _ rfl).1
 have n5 := fun v (h : Below U1.heap.size U1 v) => (rn v h 5 _ rfl).1
 have bq1 := Below.refl U1.heap.size U1
 go_upto_region 5 with fail
 clear bq1
 obtain ⟨U2, hU, bU2, sU2, rm⟩ := lay6z U1 (.int .i64 op) (.string ⟨#[]⟩) (.string ⟨#[]⟩) (.string ⟨#[120]⟩) (.int .i64 a) (.int .i64 b) 41
 rw [hU]; clear hU
 go_wp2_with fail
 refine (kt_f 1 [49] (wd_const (by decide) (by decide)) (by decide) (by decide) _).mono ?_
 rintro e w3 ⟨rfl, b3⟩
 have z1 := (rm w3 b3 1 _ rfl).1; have z2 := (rm w3 b3 2 _ rfl).1; have f1 := (rm w3 b3 1 _ rfl).2; have f2 := (rm w3 b3 2 _ rfl).2
 go_upto_region 6 with fail
 clear z1 z2 f1 f2
 have rp := put6 (ya := .string ⟨#[49]⟩) (yb := .string ⟨#[49]⟩) (Nat.lt_of_lt_of_le sU2 b3.size) (fun j x e => (rm w3 b3 j x e).1)
 have bp : Below U1.heap.size U1 ((w3.setCell ⟨U1.heap.size, 1, none⟩ (.string ⟨#[49]⟩)).setCell ⟨U1.heap.size, 2, none⟩ (.string ⟨#[49]⟩)) := Below.setCell (Below.setCell (Below.more bU2 b3) (Nat.le_refl _) _) (Nat.le_refl _) _
 obtain ⟨U3, hU⟩ : ∃ U, (w3.setCell ⟨U1.heap.size, 1, none⟩ (.string ⟨#[49]⟩)).setCell ⟨U1.heap.size, 2, none⟩ (.string ⟨#[49]⟩) = U := ⟨_, rfl⟩
 rw [hU] at rp bp ⊢
 clear hU rm rn b3 sU1 sU2 bU2
 have m0 := fun v (h : Below U3.heap.size U3 v) => rp v h 0 _ rfl
 have m1 := fun v (h : Below U3.heap.size U3 v) => rp v h 1 _ rfl
 have m2 := fun v (h : Below U3.heap.size U3 v) => rp v h 2 _ rfl
 have m3 := fun v (h : Below U3.heap.size U3 v) => rp v h 3 _ rfl
 have m4 := fun v (h : Below U3.heap.size U3 v) => rp v h 4 _ rfl
 have m5 := fun v (h : Below U3.heap.size U3 v) => rp v h 5 _ rfl
 have bq3 := Below.refl U3.heap.size U3
 have hb3 := Below.more b1 (Below.more bU1 bp)
 replace HG := Lib.hid (HB.out.below HG.out (Below.more bU1 bp))
 clear rp
 go_wp2_with fail
 have hx := ndsLit U3 [Tm.nodeX op a b] #[.int .i64 op, .string ⟨#[]⟩, .string ⟨#[]⟩, .string ⟨#[120]⟩, .int .i64 a, .int .i64 b] rfl
 have bz := Below.alloc (Below.refl U3.heap.size U3) (Nat.le_refl _) (.cells #[.int .i64 op, .string ⟨#[]⟩, .string ⟨#[]⟩, .string ⟨#[120]⟩, .int .i64 a, .int .i64 b] 41)
 obtain ⟨U4, hU⟩ : ∃ U, U3.alloc (.cells #[.int .i64 op, .string ⟨#[]⟩, .string ⟨#[]⟩, .string ⟨#[120]⟩, .int .i64 a, .int .i64 b] 41) = U := ⟨_, rfl⟩
 rw [hU] at hx bz ⊢
 clear hU
 refine (CX.out _ _ hx (HB.out.below HG.out bz)).mono ?_
 rintro e w5 ⟨rfl, b5⟩
 have c3 := Below.more bz b5
 have c1 := Below.more bp c3
 clear bq3 bp bz b5 hx
 go_wp2_with fail
 have hy := ndsLit w5 [Tm.nodeY op a b] #[.int .i64 op, .string ⟨#[49]⟩, .string ⟨#[49]⟩, .string ⟨#[120]⟩, .int .i64 a, .int .i64 b] rfl
 have bz := Below.alloc (Below.refl w5.heap.size w5) (Nat.le_refl _) (.cells #[.int .i64 op, .string ⟨#[49]⟩, .string ⟨#[49]⟩, .string ⟨#[120]⟩, .int .i64 a, .int .i64 b] 41)
 obtain ⟨U6, hU⟩ : ∃ U, w5.alloc (.cells #[.int .i64 op, .string ⟨#[49]⟩, .string ⟨#[49]⟩, .string ⟨#[120]⟩, .int .i64 a, .int .i64 b] 41) = U := ⟨_, rfl⟩
 rw [hU] at hy bz ⊢
 clear hU
 refine (CY.out _ _ hy (HB.out.below HG.out (Below.more c3 bz))).mono ?_
 rintro e w7 ⟨rfl, b7⟩
 go_wp2_with fail
 go_ret
 exact ⟨ret_bool (by first | rfl | (simp; done) | (simp; omega)), Below.more hb3 (Below.more c3 (Below.more bz b7))⟩
theorem nodes10_any (H : TermC G) (op a b : Int) (w : World) (ho : -9223372036854775808 ≤ op) (ho' : op ≤ 9223372036854775807) (hg : G w) : Calls Tryz.prog 6 #[.int .i64 op, .int .i64 a, .int .i64 b] w (GiveB w true) := by
 by_cases h0 : a < -2
 ·exact nodes10_0 H op a b w ho ho' hg h0
 by_cases h1 : b < -2
 ·exact nodes10_1 H op a b w ho ho' hg h0 h1
 by_cases h2 : 10100 < a
 ·exact nodes10_2 H op a b w ho ho' hg h0 h1 h2
 by_cases h3 : 10100 < b
 ·exact nodes10_3 H op a b w ho ho' hg h0 h1 h2 h3
 by_cases s0 : 2 ≤ op
 ·have q0 : ¬ op = 1 := by omega
  by_cases s1 : op ≤ 4
  ·by_cases s2 : 0 ≤ a
   ·by_cases s3 : b ≤ 9999
    ·by_cases s4 : a ≤ b
     ·by_cases s5 : b - a ≤ 59
      ·exact nodes10_w5 H op a b w ho ho' hg h0 h1 h2 h3 s0 s1 s2 s3 s4 s5 q0
      ·exact nodes10_w4 H op a b w ho ho' hg h0 h1 h2 h3 s0 s1 s2 s3 s4 s5 q0
     ·exact nodes10_w3 H op a b w ho ho' hg h0 h1 h2 h3 s0 s1 s2 s3 s4 q0
    ·exact nodes10_w2 H op a b w ho ho' hg h0 h1 h2 h3 s0 s1 s2 s3 q0
   ·exact nodes10_w1 H op a b w ho ho' hg h0 h1 h2 h3 s0 s1 s2 q0
  ·exact nodes10_w0 H op a b w ho ho' hg h0 h1 h2 h3 s0 s1 q0
 ·by_cases p0 : op = 1
  ·by_cases p1 : 0 ≤ a
   ·by_cases p2 : a ≤ 9999
    ·by_cases p3 : b = 0
     ·exact nodes10_w10 H op a b w ho ho' hg h0 h1 h2 h3 s0 p0 p1 p2 p3
     ·exact nodes10_w9 H op a b w ho ho' hg h0 h1 h2 h3 s0 p0 p1 p2 p3
    ·exact nodes10_w8 H op a b w ho ho' hg h0 h1 h2 h3 s0 p0 p1 p2
   ·exact nodes10_w7 H op a b w ho ho' hg h0 h1 h2 h3 s0 p0 p1
  ·exact nodes10_w6 H op a b w ho ho' hg h0 h1 h2 h3 s0 p0
end Go.Proofs.YtdeinhkdphgfaaaGreatDoor
