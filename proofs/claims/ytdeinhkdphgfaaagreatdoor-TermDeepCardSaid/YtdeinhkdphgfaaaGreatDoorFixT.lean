/- The fixed calls at the head of each statement of layer 10. -/
import Derived.Test.YtdeinhkdphgfaaaGreatDoorTermApi
namespace Go.Proofs.YtdeinhkdphgfaaaGreatDoor
open Go.RowKit
set_option linter.unusedSimpArgs false
set_option linter.unusedVariables false
open Tm (Nd Tr arN arI formB joinT printT checkT depthT argsT plainN pxN nmN thN avN loN someT bothT)
variable {G : World → Prop}
set_option maxRecDepth 100000 in
set_option maxHeartbeats 4000000 in
theorem fixed10_any (H : TermC G) (w : World) (hg : G w) : Calls Tryz.prog 9 #[] w (GiveB w true) := by
 have HB := Lib.hid H; have HG := Lib.hid hg; clear H hg
 go_enter Tryz.func9, Tryz.ntmps9
 have b0 := Below.refl w.heap.size w
 go_wp2_with fail
 refine (some_any _).mono ?_
 rintro e w1 ⟨⟨ps, cs, rfl, hcs, ls⟩, b⟩
 have b1 := Below.more b0 b
 replace HG := Lib.hid (HB.out.below HG.out b)
 have Ls := Lib.hid ls
 clear b ls
 obtain ⟨⟨bs, rfl⟩, ls⟩ := Ls.out
 replace Ls := Lib.hid ls
 clear ls
 go_wp2_with fail
 refine (kt_o2 _).mono ?_
 rintro e w2 ⟨rfl, b⟩
 have b2 := Below.more b1 b
 replace Ls := Lib.hid (Ls.out.below b)
 replace HG := Lib.hid (HB.out.below HG.out b)
 clear b
 go_wp2_with fail
 have hn := ndsLit w2 [thN] #[.int .i64 0, .string ⟨#[45, 49]⟩, .string ⟨#[51]⟩, .string ⟨#[]⟩, .int .i64 0, .int .i64 0] rfl
 have bn : Below w2.heap.size w2 (w2.alloc (.cells #[.int .i64 0, .string ⟨#[45, 49]⟩, .string ⟨#[51]⟩, .string ⟨#[]⟩, .int .i64 0, .int .i64 0] 41)) := Below.alloc (Below.refl _ _) (Nat.le_refl _) _
 have hsz : (w2.alloc (.cells #[.int .i64 0, .string ⟨#[45, 49]⟩, .string ⟨#[51]⟩, .string ⟨#[]⟩, .int .i64 0, .int .i64 0] 41)).heap.size = w2.heap.size + 1 := by simp
 obtain ⟨wq, hq⟩ : ∃ U, w2.alloc (.cells #[.int .i64 0, .string ⟨#[45, 49]⟩, .string ⟨#[51]⟩, .string ⟨#[]⟩, .int .i64 0, .int .i64 0] 41) = U := ⟨_, rfl⟩
 rw [hq] at hn bn hsz ⊢
 have hrow := trms2 wq (some ⟨bs, 0, none⟩) (some ⟨w2.heap.size, 0, none⟩) 3 1 cs 1 someT [thN] rfl rfl hcs (Nat.le_refl _) (Ls.out.below bn) hn
 have bq : Below wq.heap.size wq (wq.alloc (.cells #[.slice (some ⟨bs, 0, none⟩) 3 cs, .slice (some ⟨w2.heap.size, 0, none⟩) 1 1] 23)) := Below.alloc (Below.refl _ _) (Nat.le_refl _) _
 rw [hsz] at hrow
 obtain ⟨w3, hU⟩ : ∃ U, wq.alloc (.cells #[.slice (some ⟨bs, 0, none⟩) 3 cs, .slice (some ⟨w2.heap.size, 0, none⟩) 1 1] 23) = U := ⟨_, rfl⟩
 rw [hU] at hrow bq ⊢
 have b := Below.more bn bq
 have b3 := Below.more b2 b
 replace Ls := Lib.hid (Ls.out.below b)
 replace HG := Lib.hid (HB.out.below HG.out b)
 have Lq := Lib.hid hrow
 clear b hrow hU hq hn bn bq
 refine (kt_j HB.out _ _ Lq.out HG.out).mono ?_
 rintro e w4 ⟨⟨pj, cj, rfl, hcj, lj⟩, b⟩
 have b4 := Below.more b3 b
 replace Ls := Lib.hid (Ls.out.below b)
 replace Lq := Lib.hid (Lq.out.below b)
 replace HG := Lib.hid (HB.out.below HG.out b)
 have Lj := Lib.hid lj
 clear b lj
 go_wp2_with fail
 refine (kt_a HB.out _ _ _ hcj Lj.out HG.out).mono ?_
 rintro e w5 ⟨⟨pa, ca, rfl, hca, la⟩, b⟩
 have b5 := Below.more b4 b
 replace Ls := Lib.hid (Ls.out.below b)
 replace Lq := Lib.hid (Lq.out.below b)
 replace Lj := Lib.hid (Lj.out.below b)
 replace HG := Lib.hid (HB.out.below HG.out b)
 have La := Lib.hid la
 clear b la
 obtain ⟨ba, oa, qa, ca', hpa, ka0, hca', LN⟩ := La.out.rule (k := 0) (t := someT) rfl
 subst hpa
 simp only [Nat.add_zero] at ka0
 have LNa := Lib.hid LN
 clear LN
 have HG0 := HG
 have hB := Lib.hid (Nat.le_refl w5.heap.size)
 have bW := Below.refl w5.heap.size w5
 have CG := Lib.hid (fun V (h : Below w5.heap.size w5 V) => HB.out.below HG.out h)
 have CJ := Lib.hid (fun V (h : Below w5.heap.size w5 V) => Lj.out.below h)
 have CN := Lib.hid (fun V (h : Below w5.heap.size w5 V) => LNa.out.below h)
 go_wp2_with fail
 refine wp_region_noPanic ?_
 refine wp_region_held_drew (S := fun w' => Below w5.heap.size w5 w') (by kernel_rfl) (bW.drew) (fun hH0 => ?_)
 refine wpAnyH_ready (rs := [0]) (by kernel_rfl) (by simp) ?_
 refine AllReadyH.cons rfl (fun K hK => ?_) AllReadyH.nil
 go_simp
 refine (heldT (W := w5) hB.out (some_any _) (by assumption)).mono ?_
 rintro e x1 ⟨⟨px, cx, rfl, hcx, ⟨bxs, rfl⟩, hl⟩, hb, hw⟩
 have Lx := Lib.hid hl
 clear hl
 have hdx : (2 : Int) ≤ (cx : Int) := by omega
 (try go_wp2_with fail)
 refine hK.out _ _ hw (fun hH1 => ?_)
 clear hK hH0 hb hw
 try simp only [Act.put, qA, qB, qC, qD, qE, qF]
 refine wpAnyH_ready (rs := [1]) (by kernel_rfl) (by simp) ?_
 refine AllReadyH.cons rfl (fun K hK => ?_) AllReadyH.nil
 go_simp
 refine (held (W := w5) hB.out (kt_p1 HB.out _ _ _ hcx Lx.out (CG.out _ (by assumption))) (by assumption)).mono ?_
 rintro e x2 ⟨rfl, hb, hw⟩
 replace Lx := Lib.hid (Lx.out.below hb)
 (try go_wp2_with fail)
 refine hK.out _ _ hw (fun hH2 => ?_)
 clear hK hH1 hb hw
 try simp only [Act.put, qA, qB, qC, qD, qE, qF]
 refine wpAnyH_take (i := 2) (v := ?_) rfl (by kernel_rfl) (by kernel_rfl) (by kernel_rfl) (fun _ _ _ h => h) (Or.inl ⟨by rfl, ?_⟩) (by assumption) ?_
 rotate_left 1
 ·(intro w hSw; (try dsimp only at hSw); go_simp <;> (with_reducible rfl))
 try simp only [Act.put, qA, qB, qC, qD, qE, qF]
 refine wpAnyH_take (i := 3) (v := ?_) rfl (by kernel_rfl) (by kernel_rfl) (by kernel_rfl) (fun _ _ _ h => h) (Or.inl ⟨by rfl, ?_⟩) (by assumption) ?_
 rotate_left 1
 ·(intro w hSw; (try dsimp only at hSw); go_simp <;> (with_reducible rfl))
 try simp only [Act.put, qA, qB, qC, qD, qE, qF]
 refine wpAnyH_take (i := 4) (v := ?_) rfl (by kernel_rfl) (by kernel_rfl) (by kernel_rfl) (fun _ _ _ h => h) (Or.inl ⟨by rfl, ?_⟩) (by assumption) ?_
 rotate_left 1
 ·(intro w hSw; (try dsimp only at hSw); go_simp <;> (with_reducible rfl))
 try simp only [Act.put, qA, qB, qC, qD, qE, qF]
 refine wpAnyH_ready (rs := [5]) (by kernel_rfl) (by simp) ?_
 refine AllReadyH.cons rfl (fun K hK => ?_) AllReadyH.nil
 go_simp
 refine (held (W := w5) hB.out (kt_p2 HB.out _ _ _ hcj (CJ.out _ (by assumption)) (CG.out _ (by assumption))) (by assumption)).mono ?_
 rintro e x3 ⟨rfl, hb, hw⟩
 replace Lx := Lib.hid (Lx.out.below hb)
 (try go_wp2_with fail)
 refine hK.out _ _ hw (fun hH3 => ?_)
 clear hK hH2 hb hw
 try simp only [Act.put, qA, qB, qC, qD, qE, qF]
 refine wpAnyH_take (i := 6) (v := ?_) rfl (by kernel_rfl) (by kernel_rfl) (by kernel_rfl) (fun _ _ _ h => h) (Or.inl ⟨by rfl, ?_⟩) (by assumption) ?_
 rotate_left 1
 ·(intro w hSw; (try dsimp only at hSw); go_simp <;> (with_reducible rfl))
 try simp only [Act.put, qA, qB, qC, qD, qE, qF]
 refine wpAnyH_take (i := 7) (v := ?_) rfl (by kernel_rfl) (by kernel_rfl) (by kernel_rfl) (fun _ _ _ h => h) (Or.inl ⟨by rfl, ?_⟩) (by assumption) ?_
 rotate_left 1
 ·(intro w hSw; (try dsimp only at hSw); go_simp <;> (with_reducible rfl))
 try simp only [Act.put, qA, qB, qC, qD, qE, qF]
 refine wpAnyH_take (i := 8) (v := ?_) rfl (by kernel_rfl) (by kernel_rfl) (by kernel_rfl) (fun _ _ _ h => h) (Or.inl ⟨by rfl, ?_⟩) (by assumption) ?_
 rotate_left 1
 ·(intro w hSw; (try dsimp only at hSw); go_simp <;> (with_reducible rfl))
 try simp only [Act.put, qA, qB, qC, qD, qE, qF]
 refine wpAnyH_take (i := 9) (v := ?_) rfl (by kernel_rfl) (by kernel_rfl) (by kernel_rfl) (fun _ _ _ h => h) (Or.inl ⟨by rfl, ?_⟩) (by assumption) ?_
 rotate_left 1
 ·(intro w hSw; (try dsimp only at hSw); go_simp <;> (with_reducible rfl))
 try simp only [Act.put, qA, qB, qC, qD, qE, qF]
 refine wpAnyH_ready (rs := [10]) (by kernel_rfl) (by simp) ?_
 refine AllReadyH.cons rfl (fun K hK => ?_) AllReadyH.nil
 go_simp
 refine (held (W := w5) hB.out (kt_c1 HB.out _ _ _ hcj (CJ.out _ (by assumption)) (CG.out _ (by assumption))) (by assumption)).mono ?_
 rintro e x4 ⟨rfl, hb, hw⟩
 replace Lx := Lib.hid (Lx.out.below hb)
 (try go_wp2_with fail)
 refine hK.out _ _ hw (fun hH4 => ?_)
 clear hK hH3 hb hw
 try simp only [Act.put, qA, qB, qC, qD, qE, qF]
 refine wpAnyH_take (i := 11) (v := ?_) rfl (by kernel_rfl) (by kernel_rfl) (by kernel_rfl) (fun _ _ _ h => h) (Or.inl ⟨by rfl, ?_⟩) (by assumption) ?_
 rotate_left 1
 ·(intro w hSw; (try dsimp only at hSw); go_simp <;> (with_reducible rfl))
 try simp only [Act.put, qA, qB, qC, qD, qE, qF]
 refine wpAnyH_take (i := 12) (v := ?_) rfl (by kernel_rfl) (by kernel_rfl) (by kernel_rfl) (fun _ _ _ h => h) (Or.inl ⟨by rfl, ?_⟩) (by assumption) ?_
 rotate_left 1
 ·(intro w hSw; (try dsimp only at hSw); go_simp <;> (with_reducible rfl))
 try simp only [Act.put, qA, qB, qC, qD, qE, qF]
 refine wpAnyH_take (i := 13) (v := ?_) rfl (by kernel_rfl) (by kernel_rfl) (by kernel_rfl) (fun _ _ _ h => h) (Or.inl ⟨by rfl, ?_⟩) (by assumption) ?_
 rotate_left 1
 ·(intro w hSw; (try dsimp only at hSw); go_simp <;> (with_reducible rfl))
 try simp only [Act.put, qA, qB, qC, qD, qE, qF]
 refine wpAnyH_take (i := 14) (v := ?_) rfl (by kernel_rfl) (by kernel_rfl) (by kernel_rfl) (fun _ _ _ h => h) (Or.inl ⟨by rfl, ?_⟩) (by assumption) ?_
 rotate_left 1
 ·(intro w hSw; (try dsimp only at hSw); go_simp <;> (with_reducible rfl))
 try simp only [Act.put, qA, qB, qC, qD, qE, qF]
 refine wpAnyH_ready (rs := [15]) (by kernel_rfl) (by simp) ?_
 refine AllReadyH.cons rfl (fun K hK => ?_) AllReadyH.nil
 go_simp
 refine (held (W := w5) hB.out (kt_d HB.out _ _ _ hcj (CJ.out _ (by assumption)) (CG.out _ (by assumption))) (by assumption)).mono ?_
 rintro e x5 ⟨rfl, hb, hw⟩
 replace Lx := Lib.hid (Lx.out.below hb)
 (try go_wp2_with fail)
 refine hK.out _ _ hw (fun hH5 => ?_)
 clear hK hH4 hb hw
 try simp only [Act.put, qA, qB, qC, qD, qE, qF]
 refine wpAnyH_take (i := 16) (v := ?_) rfl (by kernel_rfl) (by kernel_rfl) (by kernel_rfl) (fun _ _ _ h => h) (Or.inl ⟨by rfl, ?_⟩) (by assumption) ?_
 rotate_left 1
 ·(intro w hSw; (try dsimp only at hSw); go_simp <;> (with_reducible rfl))
 try simp only [Act.put, qA, qB, qC, qD, qE, qF]
 refine wpAnyH_take (i := 17) (v := ?_) rfl (by kernel_rfl) (by kernel_rfl) (by kernel_rfl) (fun _ _ _ h => h) (Or.inl ⟨by rfl, ?_⟩) (by assumption) ?_
 rotate_left 1
 ·(intro w hSw; (try dsimp only at hSw); go_simp <;> (with_reducible rfl))
 try simp only [Act.put, qA, qB, qC, qD, qE, qF]
 refine wpAnyH_take (i := 18) (v := ?_) rfl (by kernel_rfl) (by kernel_rfl) (by kernel_rfl) (fun _ _ _ h => h) (Or.inl ⟨by rfl, ?_⟩) (by assumption) ?_
 rotate_left 1
 ·(intro w hSw; (try dsimp only at hSw); go_simp <;> (with_reducible rfl))
 try simp only [Act.put, qA, qB, qC, qD, qE, qF]
 refine wpAnyH_take (i := 19) (v := ?_) rfl (by kernel_rfl) (by kernel_rfl) (by kernel_rfl) (fun _ _ _ h => h) (Or.inl ⟨by rfl, ?_⟩) (by assumption) ?_
 rotate_left 1
 ·(intro w hSw; (try dsimp only at hSw); go_simp <;> (with_reducible rfl))
 try simp only [Act.put, qA, qB, qC, qD, qE, qF]
 refine wpAnyH_take (i := 20) (v := ?_) rfl (by kernel_rfl) (by kernel_rfl) (by kernel_rfl) (fun _ _ _ h => h) (Or.inl ⟨by rfl, ?_⟩) (by assumption) ?_
 rotate_left 1
 ·(intro w hSw; (try dsimp only at hSw); go_simp <;> (with_reducible rfl))
 try simp only [Act.put, qA, qB, qC, qD, qE, qF]
 refine wpAnyH_take (i := 21) (v := ?_) rfl (by kernel_rfl) (by kernel_rfl) (by kernel_rfl) (fun _ _ _ h => h) (Or.inl ⟨by rfl, ?_⟩) (by assumption) ?_
 rotate_left 1
 ·(intro w hSw; (try dsimp only at hSw); go_simp <;> (with_reducible rfl))
 try simp only [Act.put, qA, qB, qC, qD, qE, qF]
 refine wpAnyH_take (i := 22) (v := ?_) rfl (by kernel_rfl) (by kernel_rfl) (by kernel_rfl) (fun _ _ _ h => h) (Or.inl ⟨by rfl, ?_⟩) (by assumption) ?_
 rotate_left 1
 ·(intro w hSw; (try dsimp only at hSw); go_simp <;> (with_reducible rfl))
 try simp only [Act.put, qA, qB, qC, qD, qE, qF]
 refine wpAnyH_take (i := 23) (v := ?_) rfl (by kernel_rfl) (by kernel_rfl) (by kernel_rfl) (fun _ _ _ h => h) (Or.inl ⟨by rfl, ?_⟩) (by assumption) ?_
 rotate_left 1
 ·(intro w hSw; (try dsimp only at hSw); go_simp <;> (with_reducible rfl))
 try simp only [Act.put, qA, qB, qC, qD, qE, qF]
 refine wpAnyH_take (i := 24) (v := ?_) rfl (by kernel_rfl) (by kernel_rfl) (by kernel_rfl) (fun _ _ _ h => h) (Or.inl ⟨by rfl, ?_⟩) (by assumption) ?_
 rotate_left 1
 ·(intro w hSw; (try dsimp only at hSw); go_simp <;> (with_reducible rfl))
 try simp only [Act.put, qA, qB, qC, qD, qE, qF]
 refine wpAnyH_take (i := 25) (v := ?_) rfl (by kernel_rfl) (by kernel_rfl) (by kernel_rfl) (fun _ _ _ h => h) (Or.inl ⟨by rfl, ?_⟩) (by assumption) ?_
 rotate_left 1
 ·(intro w hSw; (try dsimp only at hSw); go_simp <;> (with_reducible rfl))
 try simp only [Act.put, qA, qB, qC, qD, qE, qF]
 refine wpAnyH_take (i := 26) (v := ?_) rfl (by kernel_rfl) (by kernel_rfl) (by kernel_rfl) (fun _ _ _ h => h) (Or.inl ⟨by rfl, ?_⟩) (by assumption) ?_
 rotate_left 1
 ·(intro w hSw; (try dsimp only at hSw); go_simp <;> (with_reducible rfl))
 try simp only [Act.put, qA, qB, qC, qD, qE, qF]
 refine wpAnyH_ready (rs := [27]) (by kernel_rfl) (by simp) ?_
 refine AllReadyH.cons rfl (fun K hK => ?_) AllReadyH.nil
 go_simp
 refine (heldT (W := w5) hB.out (some_any _) (by assumption)).mono ?_
 rintro e x6 ⟨⟨py, cy, rfl, hcy, ⟨bys, rfl⟩, hl⟩, hb, hw⟩
 replace Lx := Lib.hid (Lx.out.below hb)
 have Ly := Lib.hid hl
 clear hl
 have hdy : (2 : Int) ≤ (cy : Int) := by omega
 (try go_wp2_with fail)
 refine hK.out _ _ hw (fun hH6 => ?_)
 clear hK hH5 hb hw
 try simp only [Act.put, qA, qB, qC, qD, qE, qF]
 refine wpAnyH_ready (rs := [28]) (by kernel_rfl) (by simp) ?_
 refine AllReadyH.cons rfl (fun K hK => ?_) AllReadyH.nil
 go_simp
 refine (held (W := w5) hB.out (kt_s _ _ _ _ _ (CN.out _ (by assumption)) Ly.out) (by assumption)).mono ?_
 rintro e x7 ⟨rfl, hb, hw⟩
 replace Lx := Lib.hid (Lx.out.below hb)
 replace Ly := Lib.hid (Ly.out.below hb)
 (try go_wp2_with fail)
 refine hK.out _ _ hw (fun hH7 => ?_)
 clear hK hH6 hb hw
 try simp only [Act.put, qA, qB, qC, qD, qE, qF]
 refine wpAnyH_take (i := 29) (v := ?_) rfl (by kernel_rfl) (by kernel_rfl) (by kernel_rfl) (fun _ _ _ h => h) (Or.inl ⟨by rfl, ?_⟩) (by assumption) ?_
 rotate_left 1
 ·(intro w hSw; (try dsimp only at hSw); go_simp <;> (with_reducible rfl))
 try simp only [Act.put, qA, qB, qC, qD, qE, qF]
 refine wpAnyH_take (i := 30) (v := ?_) rfl (by kernel_rfl) (by kernel_rfl) (by kernel_rfl) (fun _ _ _ h => h) (Or.inl ⟨by rfl, ?_⟩) (by assumption) ?_
 rotate_left 1
 ·(intro w hSw; (try dsimp only at hSw); go_simp <;> (with_reducible rfl))
 try simp only [Act.put, qA, qB, qC, qD, qE, qF]
 refine wpAnyH_ready (rs := [31]) (by kernel_rfl) (by simp) ?_
 refine AllReadyH.cons rfl (fun K hK => ?_) AllReadyH.nil
 go_simp
 refine (held (W := w5) hB.out (kt_c2 HB.out _ (CG.out _ (by assumption))) (by assumption)).mono ?_
 rintro e x8 ⟨rfl, hb, hw⟩
 replace Lx := Lib.hid (Lx.out.below hb)
 replace Ly := Lib.hid (Ly.out.below hb)
 (try go_wp2_with fail)
 refine hK.out _ _ hw (fun hH8 => ?_)
 clear hK hH7 hb hw
 try simp only [Act.put, qA, qB, qC, qD, qE, qF]
 refine wpAnyH_take (i := 32) (v := ?_) rfl (by kernel_rfl) (by kernel_rfl) (by kernel_rfl) (fun _ _ _ h => h) (Or.inl ⟨by rfl, ?_⟩) (by assumption) ?_
 rotate_left 1
 ·(intro w hSw; (try dsimp only at hSw); go_simp <;> (with_reducible rfl))
 try simp only [Act.put, qA, qB, qC, qD, qE, qF]
 refine wpAnyH_take (i := 33) (v := ?_) rfl (by kernel_rfl) (by kernel_rfl) (by kernel_rfl) (fun _ _ _ h => h) (Or.inl ⟨by rfl, ?_⟩) (by assumption) ?_
 rotate_left 1
 ·(intro w hSw; (try dsimp only at hSw); go_simp <;> (with_reducible rfl))
 try simp only [Act.put, qA, qB, qC, qD, qE, qF]
 refine wpAnyH_take (i := 34) (v := ?_) rfl (by kernel_rfl) (by kernel_rfl) (by kernel_rfl) (fun _ _ _ h => h) (Or.inl ⟨by rfl, ?_⟩) (by assumption) ?_
 rotate_left 1
 ·(intro w hSw; (try dsimp only at hSw); go_simp <;> (with_reducible rfl))
 try simp only [Act.put, qA, qB, qC, qD, qE, qF]
 refine wpAnyH_ready (rs := [35]) (by kernel_rfl) (by simp) ?_
 refine AllReadyH.cons rfl (fun K hK => ?_) AllReadyH.nil
 go_simp
 refine (heldT (W := w5) hB.out (some_any _) (by assumption)).mono ?_
 rintro e x9 ⟨⟨pz, cz, rfl, hcz, ⟨bzs, rfl⟩, hl⟩, hb, hw⟩
 replace Lx := Lib.hid (Lx.out.below hb)
 replace Ly := Lib.hid (Ly.out.below hb)
 have Lz := Lib.hid hl
 clear hl
 have hdz : (2 : Int) ≤ (cz : Int) := by omega
 (try go_wp2_with fail)
 refine hK.out _ _ hw (fun hH9 => ?_)
 clear hK hH8 hb hw
 try simp only [Act.put, qA, qB, qC, qD, qE, qF]
 refine wpAnyH_take (i := 36) (v := ?_) rfl (by kernel_rfl) (by kernel_rfl) (by kernel_rfl) (fun _ _ _ h => h) (Or.inl ⟨by rfl, ?_⟩) (by assumption) ?_
 rotate_left 1
 ·(intro w hSw; (try dsimp only at hSw); go_simp <;> (with_reducible rfl))
 try simp only [Act.put, qA, qB, qC, qD, qE, qF]
 refine wpAnyH_ready (rs := [37]) (by kernel_rfl) (by simp) ?_
 refine AllReadyH.cons rfl (fun K hK => ?_) AllReadyH.nil
 go_simp
 refine (held (W := w5) hB.out (kt_c3 HB.out _ _ _ hcz Lz.out (CG.out _ (by assumption))) (by assumption)).mono ?_
 rintro e x10 ⟨rfl, hb, hw⟩
 replace Lx := Lib.hid (Lx.out.below hb)
 replace Ly := Lib.hid (Ly.out.below hb)
 replace Lz := Lib.hid (Lz.out.below hb)
 (try go_wp2_with fail)
 refine hK.out _ _ hw (fun hH10 => ?_)
 clear hK hH9 hb hw
 try simp only [Act.put, qA, qB, qC, qD, qE, qF]
 refine wpAnyH_take (i := 38) (v := ?_) rfl (by kernel_rfl) (by kernel_rfl) (by kernel_rfl) (fun _ _ _ h => h) (Or.inl ⟨by rfl, ?_⟩) (by assumption) ?_
 rotate_left 1
 ·(intro w hSw; (try dsimp only at hSw); go_simp <;> (with_reducible rfl))
 try simp only [Act.put, qA, qB, qC, qD, qE, qF]
 refine wpAnyH_take (i := 39) (v := ?_) rfl (by kernel_rfl) (by kernel_rfl) (by kernel_rfl) (fun _ _ _ h => h) (Or.inl ⟨by rfl, ?_⟩) (by assumption) ?_
 rotate_left 1
 ·(intro w hSw; (try dsimp only at hSw); go_simp <;> (with_reducible rfl))
 try simp only [Act.put, qA, qB, qC, qD, qE, qF]
 refine wpAnyH_take (i := 40) (v := ?_) rfl (by kernel_rfl) (by kernel_rfl) (by kernel_rfl) (fun _ _ _ h => h) (Or.inl ⟨by rfl, ?_⟩) (by assumption) ?_
 rotate_left 1
 ·(intro w hSw; (try dsimp only at hSw); go_simp <;> (with_reducible rfl))
 try simp only [Act.put, qA, qB, qC, qD, qE, qF]
 refine wpAnyH_take (i := 41) (v := ?_) rfl (by kernel_rfl) (by kernel_rfl) (by kernel_rfl) (fun _ _ _ h => h) (Or.inl ⟨by rfl, ?_⟩) (by assumption) ?_
 rotate_left 1
 ·(intro w hSw; (try dsimp only at hSw); go_simp <;> (with_reducible rfl))
 try simp only [Act.put, qA, qB, qC, qD, qE, qF]
 refine wpAnyH_ready (rs := [42]) (by kernel_rfl) (by simp) ?_
 refine AllReadyH.cons rfl (fun K hK => ?_) AllReadyH.nil
 go_simp
 have hnew := ndsLit x10 [avN] #[.int .i64 2, .string ⟨#[]⟩, .string ⟨#[]⟩, .string ⟨#[120]⟩, .int .i64 1, .int .i64 3] rfl
 have bb : Below x10.heap.size x10 (x10.alloc (.cells #[.int .i64 2, .string ⟨#[]⟩, .string ⟨#[]⟩, .string ⟨#[120]⟩, .int .i64 1, .int .i64 3] 41)) := Below.alloc (Below.refl _ _) (Nat.le_refl _) _
 obtain ⟨x11, hU⟩ : ∃ U, x10.alloc (.cells #[.int .i64 2, .string ⟨#[]⟩, .string ⟨#[]⟩, .string ⟨#[120]⟩, .int .i64 1, .int .i64 3] 41) = U := ⟨_, rfl⟩
 rw [hU] at hnew bb ⊢
 have hw : Below w5.heap.size w5 x11 := Below.more hH10 bb
 replace Lx := Lib.hid (Lx.out.below bb)
 replace Ly := Lib.hid (Ly.out.below bb)
 replace Lz := Lib.hid (Lz.out.below bb)
 have Lv := Lib.hid hnew
 clear hnew hU
 refine hK.out _ _ hw (fun hH11 => ?_)
 clear hK hH10 bb hw
 try simp only [Act.put, qA, qB, qC, qD, qE, qF]
 refine wpAnyH_ready (rs := [43]) (by kernel_rfl) (by simp) ?_
 refine AllReadyH.cons rfl (fun K hK => ?_) AllReadyH.nil
 go_simp
 refine (held (W := w5) hB.out (kt_p3 HB.out _ _ Lv.out (CG.out _ (by assumption))) (by assumption)).mono ?_
 rintro e x12 ⟨rfl, hb, hw⟩
 replace Lx := Lib.hid (Lx.out.below hb)
 replace Ly := Lib.hid (Ly.out.below hb)
 replace Lz := Lib.hid (Lz.out.below hb)
 replace Lv := Lib.hid (Lv.out.below hb)
 (try go_wp2_with fail)
 refine hK.out _ _ hw (fun hH12 => ?_)
 clear hK hH11 hb hw
 try simp only [Act.put, qA, qB, qC, qD, qE, qF]
 refine wpAnyH_take (i := 44) (v := ?_) rfl (by kernel_rfl) (by kernel_rfl) (by kernel_rfl) (fun _ _ _ h => h) (Or.inl ⟨by rfl, ?_⟩) (by assumption) ?_
 rotate_left 1
 ·(intro w hSw; (try dsimp only at hSw); go_simp <;> (with_reducible rfl))
 try simp only [Act.put, qA, qB, qC, qD, qE, qF]
 refine wpAnyH_take (i := 45) (v := ?_) rfl (by kernel_rfl) (by kernel_rfl) (by kernel_rfl) (fun _ _ _ h => h) (Or.inl ⟨by rfl, ?_⟩) (by assumption) ?_
 rotate_left 1
 ·(intro w hSw; (try dsimp only at hSw); go_simp <;> (with_reducible rfl))
 try simp only [Act.put, qA, qB, qC, qD, qE, qF]
 refine wpAnyH_take (i := 46) (v := ?_) rfl (by kernel_rfl) (by kernel_rfl) (by kernel_rfl) (fun _ _ _ h => h) (Or.inl ⟨by rfl, ?_⟩) (by assumption) ?_
 rotate_left 1
 ·(intro w hSw; (try dsimp only at hSw); go_simp <;> (with_reducible rfl))
 try simp only [Act.put, qA, qB, qC, qD, qE, qF]
 refine wpAnyH_ready (rs := [47]) (by kernel_rfl) (by simp) ?_
 refine AllReadyH.cons rfl (fun K hK => ?_) AllReadyH.nil
 go_simp
 refine (held (W := w5) hB.out (kt_r HB.out _ 12 3 (by decide) (by decide) rfl (CG.out _ (by assumption))) (by assumption)).mono ?_
 rintro e x13 ⟨rfl, hb, hw⟩
 replace Lx := Lib.hid (Lx.out.below hb)
 replace Ly := Lib.hid (Ly.out.below hb)
 replace Lz := Lib.hid (Lz.out.below hb)
 replace Lv := Lib.hid (Lv.out.below hb)
 (try go_wp2_with fail)
 refine hK.out _ _ hw (fun hH13 => ?_)
 clear hK hH12 hb hw
 try simp only [Act.put, qA, qB, qC, qD, qE, qF]
 refine wpAnyH_take (i := 48) (v := ?_) rfl (by kernel_rfl) (by kernel_rfl) (by kernel_rfl) (fun _ _ _ h => h) (Or.inl ⟨by rfl, ?_⟩) (by assumption) ?_
 rotate_left 1
 ·(intro w hSw; (try dsimp only at hSw); go_simp <;> (with_reducible rfl))
 try simp only [Act.put, qA, qB, qC, qD, qE, qF]
 refine wpAnyH_take (i := 49) (v := ?_) rfl (by kernel_rfl) (by kernel_rfl) (by kernel_rfl) (fun _ _ _ h => h) (Or.inl ⟨by rfl, ?_⟩) (by assumption) ?_
 rotate_left 1
 ·(intro w hSw; (try dsimp only at hSw); go_simp <;> (with_reducible rfl))
 try simp only [Act.put, qA, qB, qC, qD, qE, qF]
 refine wpAnyH_take (i := 50) (v := ?_) rfl (by kernel_rfl) (by kernel_rfl) (by kernel_rfl) (fun _ _ _ h => h) (Or.inl ⟨by rfl, ?_⟩) (by assumption) ?_
 rotate_left 1
 ·(intro w hSw; (try dsimp only at hSw); go_simp <;> (with_reducible rfl))
 try simp only [Act.put, qA, qB, qC, qD, qE, qF]
 refine wpAnyH_ready (rs := [51]) (by kernel_rfl) (by simp) ?_
 refine AllReadyH.cons rfl (fun K hK => ?_) AllReadyH.nil
 go_simp
 refine (held (W := w5) hB.out (kt_r HB.out _ 13 (-1) (by decide) (by decide) rfl (CG.out _ (by assumption))) (by assumption)).mono ?_
 rintro e x14 ⟨rfl, hb, hw⟩
 replace Lx := Lib.hid (Lx.out.below hb)
 replace Ly := Lib.hid (Ly.out.below hb)
 replace Lz := Lib.hid (Lz.out.below hb)
 replace Lv := Lib.hid (Lv.out.below hb)
 (try go_wp2_with fail)
 refine hK.out _ _ hw (fun hH14 => ?_)
 clear hK hH13 hb hw
 try simp only [Act.put, qA, qB, qC, qD, qE, qF]
 refine wpAnyH_take (i := 52) (v := ?_) rfl (by kernel_rfl) (by kernel_rfl) (by kernel_rfl) (fun _ _ _ h => h) (Or.inl ⟨by rfl, ?_⟩) (by assumption) ?_
 rotate_left 1
 ·(intro w hSw; (try dsimp only at hSw); go_simp <;> (with_reducible rfl))
 try simp only [Act.put, qA, qB, qC, qD, qE, qF]
 refine wpAnyH_take (i := 53) (v := ?_) rfl (by kernel_rfl) (by kernel_rfl) (by kernel_rfl) (fun _ _ _ h => h) (Or.inl ⟨by rfl, ?_⟩) (by assumption) ?_
 rotate_left 1
 ·(intro w hSw; (try dsimp only at hSw); go_simp <;> (with_reducible rfl))
 try simp only [Act.put, qA, qB, qC, qD, qE, qF]
 refine wpAnyH_take (i := 54) (v := ?_) rfl (by kernel_rfl) (by kernel_rfl) (by kernel_rfl) (fun _ _ _ h => h) (Or.inl ⟨by rfl, ?_⟩) (by assumption) ?_
 rotate_left 1
 ·(intro w hSw; (try dsimp only at hSw); go_simp <;> (with_reducible rfl))
 try simp only [Act.put, qA, qB, qC, qD, qE, qF]
 refine wpAnyH_take (i := 55) (v := ?_) rfl (by kernel_rfl) (by kernel_rfl) (by kernel_rfl) (fun _ _ _ h => h) (Or.inl ⟨by rfl, ?_⟩) (by assumption) ?_
 rotate_left 1
 ·(intro w hSw; (try dsimp only at hSw); go_simp <;> (with_reducible rfl))
 try simp only [Act.put, qA, qB, qC, qD, qE, qF]
 refine wpAnyH_ready (rs := [56]) (by kernel_rfl) (by simp) ?_
 refine AllReadyH.cons rfl (fun K hK => ?_) AllReadyH.nil
 go_simp
 have hnew := ndsLit x14 [loN] #[.int .i64 4, .string ⟨#[]⟩, .string ⟨#[]⟩, .string ⟨#[120]⟩, .int .i64 0, .int .i64 60] rfl
 have bb : Below x14.heap.size x14 (x14.alloc (.cells #[.int .i64 4, .string ⟨#[]⟩, .string ⟨#[]⟩, .string ⟨#[120]⟩, .int .i64 0, .int .i64 60] 41)) := Below.alloc (Below.refl _ _) (Nat.le_refl _) _
 obtain ⟨x15, hU⟩ : ∃ U, x14.alloc (.cells #[.int .i64 4, .string ⟨#[]⟩, .string ⟨#[]⟩, .string ⟨#[120]⟩, .int .i64 0, .int .i64 60] 41) = U := ⟨_, rfl⟩
 rw [hU] at hnew bb ⊢
 have hw : Below w5.heap.size w5 x15 := Below.more hH14 bb
 replace Lx := Lib.hid (Lx.out.below bb)
 replace Ly := Lib.hid (Ly.out.below bb)
 replace Lz := Lib.hid (Lz.out.below bb)
 replace Lv := Lib.hid (Lv.out.below bb)
 have Lo := Lib.hid hnew
 clear hnew hU
 refine hK.out _ _ hw (fun hH15 => ?_)
 clear hK hH14 bb hw
 try simp only [Act.put, qA, qB, qC, qD, qE, qF]
 refine wpAnyH_ready (rs := [57]) (by kernel_rfl) (by simp) ?_
 refine AllReadyH.cons rfl (fun K hK => ?_) AllReadyH.nil
 go_simp
 refine (held (W := w5) hB.out (kt_c4 HB.out _ _ Lo.out (CG.out _ (by assumption))) (by assumption)).mono ?_
 rintro e x16 ⟨rfl, hb, hw⟩
 replace Lx := Lib.hid (Lx.out.below hb)
 replace Ly := Lib.hid (Ly.out.below hb)
 replace Lz := Lib.hid (Lz.out.below hb)
 replace Lv := Lib.hid (Lv.out.below hb)
 replace Lo := Lib.hid (Lo.out.below hb)
 (try go_wp2_with fail)
 refine hK.out _ _ hw (fun hH16 => ?_)
 clear hK hH15 hb hw
 try simp only [Act.put, qA, qB, qC, qD, qE, qF]
 refine wpAnyH_take (i := 58) (v := ?_) rfl (by kernel_rfl) (by kernel_rfl) (by kernel_rfl) (fun _ _ _ h => h) (Or.inl ⟨by rfl, ?_⟩) (by assumption) ?_
 rotate_left 1
 ·(intro w hSw; (try dsimp only at hSw); go_simp <;> (with_reducible rfl))
 try simp only [Act.put, qA, qB, qC, qD, qE, qF]
 refine wpAnyH_take (i := 59) (v := ?_) rfl (by kernel_rfl) (by kernel_rfl) (by kernel_rfl) (fun _ _ _ h => h) (Or.inl ⟨by rfl, ?_⟩) (by assumption) ?_
 rotate_left 1
 ·(intro w hSw; (try dsimp only at hSw); go_simp <;> (with_reducible rfl))
 try simp only [Act.put, qA, qB, qC, qD, qE, qF]
 refine wpAnyH_take (i := 60) (v := ?_) rfl (by kernel_rfl) (by kernel_rfl) (by kernel_rfl) (fun _ _ _ h => h) (Or.inl ⟨by rfl, ?_⟩) (by assumption) ?_
 rotate_left 1
 ·(intro w hSw; (try dsimp only at hSw); go_simp <;> (with_reducible rfl))
 try simp only [Act.put, qA, qB, qC, qD, qE, qF]
 refine wpAnyH_done (by kernel_rfl) ?_ _
 refine NoPanic.normal ?_
 have bZ := hH16
 go_wp2_with fail
 go_ret
 exact ⟨ret_bool (by first | rfl | simp), Below.more b5 bZ⟩
end Go.Proofs.YtdeinhkdphgfaaaGreatDoor
