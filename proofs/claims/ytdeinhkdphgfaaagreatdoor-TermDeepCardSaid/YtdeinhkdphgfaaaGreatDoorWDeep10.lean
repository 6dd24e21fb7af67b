/- TermDeep: so many signs around a number are a term that may be, up to the depth of 150; each is one deeper. -/
import Derived.Test.YtdeinhkdphgfaaaGreatDoorFixT
namespace Go.Proofs.YtdeinhkdphgfaaaGreatDoor
open Go.RowKit
set_option linter.unusedSimpArgs false
set_option linter.unusedVariables false
open Tm (Nd Tr arN arI formB joinT printT checkT depthT argsT plainN)
variable {G : World → Prop}
set_option maxRecDepth 100000 in
set_option maxHeartbeats 4000000 in
theorem deep10_lo (H : TermC G) (n : Int) (w : World) (hg : G w) (hn : n < 0) : Calls Tryz.prog 7 #[.int .i64 n] w (GiveB w true) := by
 have HB := Lib.hid H; have HG := Lib.hid hg; clear H hg
 go_enter Tryz.func7, Tryz.ntmps7
 have b0 := Below.refl w.heap.size w
 go_wp2_with fail
 refine (fixed10_any HB.out _ HG.out).mono ?_
 rintro e w1 ⟨rfl, b⟩
 have b1 := Below.more b0 b
 replace HG := Lib.hid (HB.out.below HG.out b)
 clear b
 go_wp2_with fail
 refine (fixed10_any HB.out _ HG.out).mono ?_
 rintro e w2 ⟨rfl, b⟩
 have b2 := Below.more b1 b
 replace HG := Lib.hid (HB.out.below HG.out b)
 clear b
 go_wp2_with fail
 go_ret
 exact ⟨ret_bool (by first | rfl | simp), b2⟩
set_option maxRecDepth 100000 in
set_option maxHeartbeats 4000000 in
theorem deep10_hi (H : TermC G) (n : Int) (w : World) (hg : G w) (h0 : ¬ n < 0) (hn : 200 < n) : Calls Tryz.prog 7 #[.int .i64 n] w (GiveB w true) := by
 have HB := Lib.hid H; have HG := Lib.hid hg; clear H hg
 go_enter Tryz.func7, Tryz.ntmps7
 have b0 := Below.refl w.heap.size w
 go_wp2_with fail
 refine (fixed10_any HB.out _ HG.out).mono ?_
 rintro e w1 ⟨rfl, b⟩
 have b1 := Below.more b0 b
 replace HG := Lib.hid (HB.out.below HG.out b)
 clear b
 go_wp2_with fail
 refine (fixed10_any HB.out _ HG.out).mono ?_
 rintro e w2 ⟨rfl, b⟩
 have b2 := Below.more b1 b
 replace HG := Lib.hid (HB.out.below HG.out b)
 clear b
 go_wp2_with fail
 go_ret
 exact ⟨ret_bool (by first | rfl | simp), b2⟩
theorem sev_sz (n : Nat) : ∀ x ∈ (Tm.negT Tm.sevN n).flat, SzN x := by
 induction n with
 | zero => exact szN_c (by decide)
 | succ n ih =>
  intro x hx
  have hx : x ∈ (Tm.negT Tm.sevN n).flat ++ [plainN 5] := hx
  rcases List.mem_append.1 hx with h | h
  ·exact ih x h
  ·rw [List.mem_singleton.1 h]; exact szN_plain 5 (by decide) (by decide)
set_option maxRecDepth 100000 in
set_option maxHeartbeats 4000000 in
theorem deep10_main (H : TermC G) (n : Nat) (hn : n ≤ 200) (w : World) (hg : G w) : Calls Tryz.prog 7 #[.int .i64 (n : Int)] w (GiveB w true) := by
 have HB := Lib.hid H; have HG := Lib.hid hg; clear H hg
 go_enter Tryz.func7, Tryz.ntmps7
 have b0 := Below.refl w.heap.size w
 go_wp2_with fail
 refine (fixed10_any HB.out _ HG.out).mono ?_
 rintro e w1 ⟨rfl, b⟩
 have b1 := Below.more b0 b
 replace HG := Lib.hid (HB.out.below HG.out b)
 clear b
 go_wp2_with fail
 refine (kt_f 7 [55] (wd_const (by decide) (by decide)) (by decide) (by decide) _).mono ?_
 rintro e w2 ⟨rfl, b⟩
 have b2 := Below.more b1 b
 replace HG := Lib.hid (HB.out.below HG.out b)
 clear b
 have hn0 := ndsLit w2 [Tm.sevN] #[.int .i64 0, .string ⟨#[55]⟩, .string ⟨#[49]⟩, .string ⟨#[]⟩, .int .i64 0, .int .i64 0] rfl
 have bn : Below w2.heap.size w2 (w2.alloc (.cells #[.int .i64 0, .string ⟨#[55]⟩, .string ⟨#[49]⟩, .string ⟨#[]⟩, .int .i64 0, .int .i64 0] 41)) := Below.alloc (Below.refl _ _) (Nat.le_refl _) _
 have hw0 := Lib.hid (Below.more b2 bn)
 have hg0 := Lib.hid (HB.out.below HG.out bn)
 have hz := Lib.hid hn0
 clear hn0 bn
 go_wp2_with fail
 go_loopw [3, 4] (fun tv iv wr => ∃ (k : Nat) (p : Option Addr) (c : Nat), k ≤ n ∧ iv = .int .i64 k ∧ tv = .slice p (k + 1) c ∧ Hid (k + 1 ≤ c ∧ Nds wr p (Tm.negT Tm.sevN k).flat ∧ G wr ∧ Below w.heap.size w wr)) (fun _ iv _ => n - (intOf iv).toNat)
 case atStart => exact ⟨0, _, 1, Nat.zero_le _, rfl, rfl, Lib.hid ⟨Nat.le_refl _, hz.out, hg0.out, hw0.out⟩⟩
 case round =>
  obtain ⟨k, p, c, hk, rfl, rfl, HI⟩ := hrel
  by_cases hlt : k < n
  ·have hki : (k : Int) < (n : Int) := by omega
   have hl := Tm.neg_len Tm.sevN k
   go_wp2_with fail
   have hrow := trms1 wr p (k + 1) c (Tm.negT Tm.sevN k).flat hl.symm (by rw [hl]; exact HI.out.1) HI.out.2.1
   have b : Below wr.heap.size wr (wr.alloc (.cells #[.slice p (k + 1) c] 23)) := Below.alloc (Below.refl _ _) (Nat.le_refl _) _
   obtain ⟨wb, hU⟩ : ∃ U, wr.alloc (.cells #[.slice p (k + 1) c] 23) = U := ⟨_, rfl⟩
   rw [hU] at hrow b ⊢
   have hgb := HB.out.below HI.out.2.2.1 b
   have cj := HB.out.join 5 (some ⟨wr.heap.size, 0, none⟩) 1 [(Tm.negT Tm.sevN k).flat] wb (by decide) (by decide) (Nat.le_refl _) (show 1 ≤ 100 by decide) (by simp; omega) hrow hgb
   rw [Tm.neg_next] at cj
   refine cj.mono ?_
   rintro e w3 ⟨⟨p3, c3, rfl, hc3, l3⟩, b3⟩
   have hl3 := Tm.neg_len Tm.sevN (k + 1)
   have HN : Hid (k + 1 + 1 ≤ c3 ∧ Nds w3 p3 (Tm.negT Tm.sevN (k + 1)).flat ∧ G w3 ∧ Below w.heap.size w w3) := Lib.hid ⟨by rw [← hl3]; exact hc3, l3, HB.out.below hgb b3, Below.more (Below.more HI.out.2.2.2 b) b3⟩
   rw [hl3]
   clear hrow hgb cj hc3 l3 b3 b hl hl3
   go_wp2_with fail
   go_roundw
   case rel => exact ⟨k + 1, p3, c3, by omega, by go_num, by first | rfl | simp, HN⟩
   case measure => simp [intOf]; omega
  ·obtain rfl : k = n := by omega
   obtain ⟨d1, d2, d3⟩ := Tm.deep_all k hn
   have hl := Tm.neg_len Tm.sevN k
   obtain ⟨hcc, hnn, hgg, hbb⟩ := HI.out
   have hsz := sev_sz k
   have cd := HB.out.depth p c (Tm.negT Tm.sevN k).flat
   rw [hl, d1] at cd
   have CD := Lib.hid (fun V (h : Nds V p (Tm.negT Tm.sevN k).flat) (g : G V) => cd V hcc (by omega) hsz h g)
   have ck := HB.out.check p c (Tm.negT Tm.sevN k).flat
   rw [hl] at ck
   have CK := Lib.hid (fun V (h : Nds V p (Tm.negT Tm.sevN k).flat) (g : G V) => ck V hcc (by omega) hsz h g)
   have cp := HB.out.print p c (Tm.negT Tm.sevN k).flat
   rw [hl] at cp
   have CP := Lib.hid (fun V (h : Nds V p (Tm.negT Tm.sevN k).flat) (g : G V) => cp V hcc (by omega) hsz h g)
   have HK := Lib.hid d2
   have LT := Lib.hid hnn; have HGw := Lib.hid hgg
   clear cd ck cp hcc hnn hgg hsz HI d1 d2 hl
   generalize checkT (Tm.negT Tm.sevN k).flat = K at *
   generalize printT (Tm.negT Tm.sevN k).flat = P at *
   have hdp : ((k + 1 : Nat) : Int) = (k : Int) + 1 := by omega
   have hpl : (P.length : Int) = 1 + 3 * (k : Int) := by omega
   go_wp2_with fail
   refine (CD.out _ LT.out HGw.out).mono ?_
   rintro e w4 ⟨rfl, b4⟩
   have bb4 := Below.more hbb b4
   rw [hdp]
   go_wp2_with fail
   refine (CK.out _ (LT.out.below b4) (HB.out.below HGw.out b4)).mono ?_
   rintro e w5 ⟨rfl, b5⟩
   have bb5 := Below.more bb4 b5
   have b45 := Below.more b4 b5
   by_cases h150 : k + 1 ≤ 150
   ·have hi : (k : Int) + 1 ≤ 150 := by omega
    obtain rfl : K = 0 := of_decide_eq_true (HK.out.trans (decide_eq_true h150))
    go_wp2_with fail
    refine (CP.out _ (LT.out.below b45) (HB.out.below HGw.out b45)).mono ?_
    rintro e w6 ⟨rfl, b6⟩
    have bb6 := Below.more bb5 b6
    go_wp2_with fail
    go_ret
    exact ⟨ret_bool (by first | rfl | (simp [hpl]; done) | (simp [hpl]; omega)), bb6⟩
   ·have hi : ¬ (k : Int) + 1 ≤ 150 := by omega
    have hk0 : ¬ K = 0 := of_decide_eq_false (HK.out.trans (decide_eq_false h150))
    have hk0b : (K == 0) = false := beq_false_of_ne hk0
    go_wp2_with fail
    refine (CP.out _ (LT.out.below b45) (HB.out.below HGw.out b45)).mono ?_
    rintro e w6 ⟨rfl, b6⟩
    have bb6 := Below.more bb5 b6
    go_wp2_with fail
    go_ret
    exact ⟨ret_bool (by first | rfl | (simp [hpl]; done) | (simp [hpl]; omega)), bb6⟩
theorem deep10_any (H : TermC G) (n : Int) (w : World) (hg : G w) : Calls Tryz.prog 7 #[.int .i64 n] w (GiveB w true) := by
 by_cases h0 : n < 0
 ·exact deep10_lo H n w hg h0
 by_cases h1 : 200 < n
 ·exact deep10_hi H n w hg h0 h1
 obtain ⟨m, rfl⟩ : ∃ m : Nat, n = (m : Int) := ⟨n.toNat, by omega⟩
 exact deep10_main H m (by omega) w hg
end Go.Proofs.YtdeinhkdphgfaaaGreatDoor
