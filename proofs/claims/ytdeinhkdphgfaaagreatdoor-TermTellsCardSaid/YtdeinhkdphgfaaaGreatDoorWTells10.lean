/- TermTells: all that is answered of a term is as the document says. -/
import Derived.Test.YtdeinhkdphgfaaaGreatDoorFixT
namespace Go.Proofs.YtdeinhkdphgfaaaGreatDoor
open Go.RowKit
set_option linter.unusedSimpArgs false
set_option linter.unusedVariables false
open Tm (Nd Tr arN arI formB joinT printT checkT depthT argsT plainN)
variable {G : World → Prop}
set_option maxRecDepth 100000 in
set_option maxHeartbeats 4000000 in
theorem tells10_no (H : TermC G) (p : Option Addr) (c : Nat) (t : List Nd) (op : Int) (w : World) (hct : t.length ≤ c) (hnt : t.length ≤ 4611686018427387904) (HRt : Hid (∀ x ∈ t, RgN x)) (hTt : Nds w p t) (ho : -9223372036854775808 ≤ op) (ho' : op ≤ 9223372036854775807) (hg : G w) (hst : smallT t = false) : Calls Tryz.prog 3 #[.slice p t.length c, .int .i64 op] w (GiveB w true) := by
 have HB := Lib.hid H; have HG := Lib.hid hg; clear H hg
 have CSt : Hid (∀ V, Nds V p t → Calls Tryz.prog 8 #[.slice p t.length c] V (GiveB V false)) := Lib.hid fun V h => by
  have k := rtsmall_any p c t V hnt h
  rw [hst] at k
  exact k
 have LTt := Lib.hid hTt
 clear hTt hst
 go_enter Tryz.func3, Tryz.ntmps3
 have b0 := Below.refl w.heap.size w
 go_wp2_with fail
 refine (CSt.out _ LTt.out).mono ?_
 rintro e w1 ⟨rfl, b⟩
 have b1 := Below.more b0 b
 replace LTt := Lib.hid (LTt.out.below b)
 replace HG := Lib.hid (HB.out.below HG.out b)
 clear b
 go_wp2_with fail
 refine (fixed10_any HB.out _ HG.out).mono ?_
 rintro e w2 ⟨rfl, b⟩
 have b2 := Below.more b1 b
 replace LTt := Lib.hid (LTt.out.below b)
 replace HG := Lib.hid (HB.out.below HG.out b)
 clear b
 go_wp2_with fail
 go_ret
 exact ⟨ret_bool (by first | rfl | simp), b2⟩
set_option maxRecDepth 100000 in
set_option maxHeartbeats 4000000 in
theorem tells10_main (H : TermC G) (p : Option Addr) (c : Nat) (t : List Nd) (op : Int) (w : World) (hct : t.length ≤ c) (hnt : t.length ≤ 4611686018427387904) (HRt : Hid (∀ x ∈ t, RgN x)) (hTt : Nds w p t) (ho : -9223372036854775808 ≤ op) (ho' : op ≤ 9223372036854775807) (hg : G w) (hst : smallT t = true) : Calls Tryz.prog 3 #[.slice p t.length c, .int .i64 op] w (GiveB w true) := by
 have hsz := small_sz hst HRt.out
 have hl := small_len hst
 have h2 : t.length ≤ 2000 := by omega
 have ck := fun V (h : Nds V p t) (g : G V) => H.check p c t V hct h2 hsz h g
 have ckr := fun V (h : Nds V p t) => rtcheck_any p c t V (szN_ref hsz) h
 have cp := fun V (h : Nds V p t) (g : G V) => H.print p c t V hct h2 hsz h g
 have cpr := fun V (h : Nds V p t) => rtprint_any p c t V (szN_ref hsz) h
 have cd := fun V (h : Nds V p t) (g : G V) => H.depth p c t V hct h2 hsz h g
 have cdr := fun V (h : Nds V p t) => rtdepth_any p c t V h
 have ca := fun V (h : Nds V p t) (g : G V) => H.args p c t V hct h2 hsz h g
 have car := fun V (h : Nds V p t) => rtargs_any p c t V hct h
 have cj := fun V q (h : Trms V q [t, t]) (g : G V) => H.join op q 2 [t, t] V ho ho' (Nat.le_refl _) (show 2 ≤ 100 by decide) (by simp; omega) h g
 have cjr := fun V q (h : Trms V q [t, t]) => rtjoin_n op q 2 [t, t] V (show 2 ≤ 4611686018427387904 by decide) (by simp; omega) h
 have hjl : (joinT op [t, t]).length ≤ 1000 := by rw [Tm.join_len]; simp; omega
 have hal := Tm.args_short t
 have hal2 := Tm.args_le t
 generalize checkT t = K at *
 generalize hP : printT t = P at *
 generalize depthT t = D at *
 generalize argsT t = A at *
 generalize joinT op [t, t] = J at *
 have call := fun V q r d e (h : Trms V q A) (k : Trms V r A) => rtall_any q r d e A A V (by omega) (by omega) (Lib.hid fun u hu => by have := hal2 u hu; omega) (Lib.hid fun u hu => by have := hal2 u hu; omega) h k
 rw [decide_eq_true rfl] at call
 have csame := fun V q r d e (h : Nds V q J) (k : Nds V r J) => rtsame_any q r d e J J V (by omega) (by omega) h k
 rw [decide_eq_true rfl] at csame
 have HB := Lib.hid H; have HG := Lib.hid hg; clear H hg
 have CSt : Hid (∀ V, Nds V p t → Calls Tryz.prog 8 #[.slice p t.length c] V (GiveB V true)) := Lib.hid fun V h => by
  have k := rtsmall_any p c t V hnt h
  rw [hst] at k
  exact k
 have LTt := Lib.hid hTt
 have CK := Lib.hid ck; have CKr := Lib.hid ckr; have CP := Lib.hid cp; have CPr := Lib.hid cpr; have CD := Lib.hid cd; have CDr := Lib.hid cdr; have CA := Lib.hid ca; have CAr := Lib.hid car
 have CJ := Lib.hid cj; have CJr := Lib.hid cjr; have CAll := Lib.hid call; have CSame := Lib.hid csame
 clear hTt hst ck ckr cp cpr cd cdr ca car cj cjr call csame hsz hal hal2 hjl hP h2 hl
 go_enter Tryz.func3, Tryz.ntmps3
 have b0 := Below.refl w.heap.size w
 go_wp2_with fail
 refine (CSt.out _ LTt.out).mono ?_
 rintro e w1 ⟨rfl, b⟩
 have b1 := Below.more b0 b
 replace LTt := Lib.hid (LTt.out.below b)
 replace HG := Lib.hid (HB.out.below HG.out b)
 clear b
 go_wp2_with fail
 refine (fixed10_any HB.out _ HG.out).mono ?_
 rintro e w2 ⟨rfl, b⟩
 have b2 := Below.more b1 b
 replace LTt := Lib.hid (LTt.out.below b)
 replace HG := Lib.hid (HB.out.below HG.out b)
 clear b
 go_wp2_with fail
 refine (CK.out _ LTt.out HG.out).mono ?_
 rintro e w3 ⟨rfl, b⟩
 have b3 := Below.more b2 b
 replace LTt := Lib.hid (LTt.out.below b)
 replace HG := Lib.hid (HB.out.below HG.out b)
 clear b
 go_wp2_with fail
 refine (CKr.out _ LTt.out).mono ?_
 rintro e w4 ⟨rfl, b⟩
 have b4 := Below.more b3 b
 replace LTt := Lib.hid (LTt.out.below b)
 replace HG := Lib.hid (HB.out.below HG.out b)
 clear b
 go_wp2_with fail
 refine (CP.out _ LTt.out HG.out).mono ?_
 rintro e w5 ⟨rfl, b⟩
 have b5 := Below.more b4 b
 replace LTt := Lib.hid (LTt.out.below b)
 replace HG := Lib.hid (HB.out.below HG.out b)
 clear b
 go_wp2_with fail
 refine (CPr.out _ LTt.out).mono ?_
 rintro e w6 ⟨rfl, b⟩
 have b6 := Below.more b5 b
 replace LTt := Lib.hid (LTt.out.below b)
 replace HG := Lib.hid (HB.out.below HG.out b)
 clear b
 go_wp2_with fail
 refine (CD.out _ LTt.out HG.out).mono ?_
 rintro e w7 ⟨rfl, b⟩
 have b7 := Below.more b6 b
 replace LTt := Lib.hid (LTt.out.below b)
 replace HG := Lib.hid (HB.out.below HG.out b)
 clear b
 go_wp2_with fail
 refine (CDr.out _ LTt.out).mono ?_
 rintro e w8 ⟨rfl, b⟩
 have b8 := Below.more b7 b
 replace LTt := Lib.hid (LTt.out.below b)
 replace HG := Lib.hid (HB.out.below HG.out b)
 clear b
 go_wp2_with fail
 refine (CA.out _ LTt.out HG.out).mono ?_
 rintro e w9 ⟨⟨pa, ca, rfl, hca, la⟩, b⟩
 have b9 := Below.more b8 b
 replace LTt := Lib.hid (LTt.out.below b)
 replace HG := Lib.hid (HB.out.below HG.out b)
 have La := Lib.hid la
 clear b la
 go_wp2_with fail
 refine (CAr.out _ LTt.out).mono ?_
 rintro e w10 ⟨⟨pd, cd, rfl, hcd, ld⟩, b⟩
 have b10 := Below.more b9 b
 replace LTt := Lib.hid (LTt.out.below b)
 replace La := Lib.hid (La.out.below b)
 replace HG := Lib.hid (HB.out.below HG.out b)
 have Ld := Lib.hid ld
 clear b ld
 go_wp2_with fail
 refine (CAll.out _ _ _ _ _ La.out Ld.out).mono ?_
 rintro e w11 ⟨rfl, b⟩
 have b11 := Below.more b10 b
 replace LTt := Lib.hid (LTt.out.below b)
 replace La := Lib.hid (La.out.below b)
 replace Ld := Lib.hid (Ld.out.below b)
 replace HG := Lib.hid (HB.out.below HG.out b)
 clear b
 go_wp2_with fail
 refine (HB.out.arity op _ ho ho' HG.out).mono ?_
 rintro e w12 ⟨rfl, b⟩
 have b12 := Below.more b11 b
 replace LTt := Lib.hid (LTt.out.below b)
 replace La := Lib.hid (La.out.below b)
 replace Ld := Lib.hid (Ld.out.below b)
 replace HG := Lib.hid (HB.out.below HG.out b)
 clear b
 go_wp2_with fail
 refine (rtarity_any op _).mono ?_
 rintro e w13 ⟨rfl, b⟩
 have b13 := Below.more b12 b
 replace LTt := Lib.hid (LTt.out.below b)
 replace La := Lib.hid (La.out.below b)
 replace Ld := Lib.hid (Ld.out.below b)
 replace HG := Lib.hid (HB.out.below HG.out b)
 clear b
 go_wp2_with fail
 obtain ⟨w14, hU⟩ : ∃ U, w13.alloc (.cells #[.slice p t.length c, .slice p t.length c] 23) = U := ⟨_, rfl⟩
 have hrow := trms2 w13 p p _ _ c c t t rfl rfl hct hct LTt.out LTt.out
 have b : Below w13.heap.size w13 (w13.alloc (.cells #[.slice p t.length c, .slice p t.length c] 23)) := Below.alloc (Below.refl _ _) (Nat.le_refl _) _
 rw [hU] at hrow b ⊢
 have b14 := Below.more b13 b
 replace LTt := Lib.hid (LTt.out.below b)
 replace La := Lib.hid (La.out.below b)
 replace Ld := Lib.hid (Ld.out.below b)
 replace HG := Lib.hid (HB.out.below HG.out b)
 have Lj := Lib.hid hrow
 clear b hrow hU
 refine (CJ.out _ _ Lj.out HG.out).mono ?_
 rintro e w15 ⟨⟨px, cx, rfl, hcx, lx⟩, b⟩
 have b15 := Below.more b14 b
 replace LTt := Lib.hid (LTt.out.below b)
 replace La := Lib.hid (La.out.below b)
 replace Ld := Lib.hid (Ld.out.below b)
 replace Lj := Lib.hid (Lj.out.below b)
 replace HG := Lib.hid (HB.out.below HG.out b)
 have Lx := Lib.hid lx
 clear b lx
 go_wp2_with fail
 obtain ⟨w16, hU⟩ : ∃ U, w15.alloc (.cells #[.slice p t.length c, .slice p t.length c] 23) = U := ⟨_, rfl⟩
 have hrow := trms2 w15 p p _ _ c c t t rfl rfl hct hct LTt.out LTt.out
 have b : Below w15.heap.size w15 (w15.alloc (.cells #[.slice p t.length c, .slice p t.length c] 23)) := Below.alloc (Below.refl _ _) (Nat.le_refl _) _
 rw [hU] at hrow b ⊢
 have b16 := Below.more b15 b
 replace LTt := Lib.hid (LTt.out.below b)
 replace La := Lib.hid (La.out.below b)
 replace Ld := Lib.hid (Ld.out.below b)
 replace Lj := Lib.hid (Lj.out.below b)
 replace Lx := Lib.hid (Lx.out.below b)
 replace HG := Lib.hid (HB.out.below HG.out b)
 have Lk := Lib.hid hrow
 clear b hrow hU
 refine (CJr.out _ _ Lk.out).mono ?_
 rintro e w17 ⟨⟨py, cy, rfl, hcy, ly⟩, b⟩
 have b17 := Below.more b16 b
 replace LTt := Lib.hid (LTt.out.below b)
 replace La := Lib.hid (La.out.below b)
 replace Ld := Lib.hid (Ld.out.below b)
 replace Lj := Lib.hid (Lj.out.below b)
 replace Lx := Lib.hid (Lx.out.below b)
 replace Lk := Lib.hid (Lk.out.below b)
 replace HG := Lib.hid (HB.out.below HG.out b)
 have Ly := Lib.hid ly
 clear b ly
 go_wp2_with fail
 refine (CSame.out _ _ _ _ _ Lx.out Ly.out).mono ?_
 rintro e w18 ⟨rfl, b⟩
 have b18 := Below.more b17 b
 replace LTt := Lib.hid (LTt.out.below b)
 replace La := Lib.hid (La.out.below b)
 replace Ld := Lib.hid (Ld.out.below b)
 replace Lj := Lib.hid (Lj.out.below b)
 replace Lx := Lib.hid (Lx.out.below b)
 replace Lk := Lib.hid (Lk.out.below b)
 replace Ly := Lib.hid (Ly.out.below b)
 replace HG := Lib.hid (HB.out.below HG.out b)
 clear b
 go_wp2_with fail
 go_ret
 exact ⟨ret_bool (by first | rfl | simp), b18⟩
theorem tells10_any (H : TermC G) (p : Option Addr) (c : Nat) (t : List Nd) (op : Int) (w : World) (hct : t.length ≤ c) (hnt : t.length ≤ 4611686018427387904) (HRt : Hid (∀ x ∈ t, RgN x)) (hTt : Nds w p t) (ho : -9223372036854775808 ≤ op) (ho' : op ≤ 9223372036854775807) (hg : G w) : Calls Tryz.prog 3 #[.slice p t.length c, .int .i64 op] w (GiveB w true) := by
 cases hs : smallT t with
 | false => exact tells10_no H p c t op w hct hnt HRt hTt ho ho' hg hs
 | true => exact tells10_main H p c t op w hct hnt HRt hTt ho ho' hg hs
end Go.Proofs.YtdeinhkdphgfaaaGreatDoor
