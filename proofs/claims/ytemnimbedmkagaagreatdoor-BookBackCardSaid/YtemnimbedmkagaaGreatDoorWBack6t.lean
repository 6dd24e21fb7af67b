/- The walk of BookBack: asset. -/
import Derived.Test.YtemnimbedmkagaaGreatDoorWBack6
namespace Go.Proofs.YtemnimbedmkagaaGreatDoor
open Go.RowKit
set_option linter.unusedSimpArgs false
set_option linter.unusedVariables false
variable {G : World → Prop}
set_option maxRecDepth 100000 in
set_option maxHeartbeats 40000000 in
theorem back6_asset (H : BookC G) (p : Option Addr) (c : Nat) (ls : List Ln) (a s n d a2 s2 n2 d2 : List UInt8) (M M2 F : List Ln) (h0 : ls.length ≤ 4611686018427387904) (h2 : M2.length ≤ 4611686018427387904)  {nn dn g1 g2 k1 k2 t1 t2 u1 u2 : List UInt8} (ek : g1 = k1) (ek2 : g2 = k2) (e1 : (a == a2) = true) (e2 : (s == s2) = false) (w : World) (hg : G w)
    (h : Lns w p ls)
    (CS1 : Hid (∀ v, Below w.heap.size w v → Calls Tryz.prog 7 #[.slice p ls.length c] v (GiveB v true)))
    (CS2 : Hid (∀ v, Calls Tryz.prog 7 #[.slice (some ⟨v.heap.size, 0, none⟩) 2 2] (v.alloc (.cells #[.string ⟨a.toArray⟩, .string ⟨s.toArray⟩, .string ⟨n.toArray⟩, .string ⟨d.toArray⟩, .string ⟨a2.toArray⟩, .string ⟨s2.toArray⟩, .string ⟨n2.toArray⟩, .string ⟨d2.toArray⟩] 27)) fun e w' => e = .returned (.bool true) ∧ Below v.heap.size v w'))
    (CMR : Hid (∀ v, Below w.heap.size w v → Calls Tryz.prog 13 #[.slice p ls.length c] v (GiveB v true)))
    (CL1 : Hid (∀ w, Calls Tryz.prog 22 #[.agg #[.string ⟨a.toArray⟩, .string ⟨s.toArray⟩, .string ⟨n.toArray⟩, .string ⟨d.toArray⟩]] w (GiveB w true)))
    (CL2 : Hid (∀ w, Calls Tryz.prog 22 #[.agg #[.string ⟨a2.toArray⟩, .string ⟨s2.toArray⟩, .string ⟨n2.toArray⟩, .string ⟨d2.toArray⟩]] w (GiveB w true)))
    (CA1 : Hid (∀ v, Below w.heap.size w v → G v → Calls Tryz.prog 9 #[.slice p ls.length c, .agg #[.string ⟨a.toArray⟩, .string ⟨s.toArray⟩, .string ⟨n.toArray⟩, .string ⟨d.toArray⟩]] v (fun e w' => (∃ p c, e = .returned (.tuple #[.slice p M.length c, .bool true]) ∧ M.length ≤ c ∧ Lns w' p M) ∧ Below v.heap.size v w')))
    (CNG : Hid (∀ w, Calls Tryz.prog 23 #[.agg #[.string ⟨n.toArray⟩, .string ⟨d.toArray⟩]] w (GiveR w (nn, dn))))
    (CA2 : Hid (∀ (p : Option Addr) (c : Nat) (v : World), M.length ≤ c → Lns v p M → G v → Calls Tryz.prog 9 #[.slice p M.length c, .agg #[.string ⟨a.toArray⟩, .string ⟨s.toArray⟩, .string ⟨nn.toArray⟩, .string ⟨dn.toArray⟩]] v (fun e w' => (∃ p c, e = .returned (.tuple #[.slice p ls.length c, .bool true]) ∧ ls.length ≤ c ∧ Lns w' p ls) ∧ Below v.heap.size v w')))
    (CA3 : Hid (∀ (p : Option Addr) (c : Nat) (v : World), M.length ≤ c → Lns v p M → G v → Calls Tryz.prog 9 #[.slice p M.length c, .agg #[.string ⟨a2.toArray⟩, .string ⟨s2.toArray⟩, .string ⟨n2.toArray⟩, .string ⟨d2.toArray⟩]] v (fun e w' => (∃ p c, e = .returned (.tuple #[.slice p M2.length c, .bool true]) ∧ M2.length ≤ c ∧ Lns w' p M2) ∧ Below v.heap.size v w')))
    (CA4 : Hid (∀ v, Below w.heap.size w v → G v → Calls Tryz.prog 9 #[.slice p ls.length c, .agg #[.string ⟨a2.toArray⟩, .string ⟨s2.toArray⟩, .string ⟨n2.toArray⟩, .string ⟨d2.toArray⟩]] v (fun e w' => (∃ p c, e = .returned (.tuple #[.slice p F.length c, .bool true]) ∧ F.length ≤ c ∧ Lns w' p F) ∧ Below v.heap.size v w')))
    (CA5 : Hid (∀ (p : Option Addr) (c : Nat) (v : World), F.length ≤ c → Lns v p F → G v → Calls Tryz.prog 9 #[.slice p F.length c, .agg #[.string ⟨a.toArray⟩, .string ⟨s.toArray⟩, .string ⟨n.toArray⟩, .string ⟨d.toArray⟩]] v (fun e w' => (∃ p c, e = .returned (.tuple #[.slice p M2.length c, .bool true]) ∧ M2.length ≤ c ∧ Lns w' p M2) ∧ Below v.heap.size v w')))
    (CMP : Hid (∀ (p : Option Addr) (c : Nat) (v : World), M.length ≤ c → Lns v p M → G v → Calls Tryz.prog 12 #[.slice p M.length c] v (GiveB v true)))
    (CG1 : Hid (∀ v, Below w.heap.size w v → G v → Calls Tryz.prog 16 #[.slice p ls.length c, .string ⟨a2.toArray⟩, .string ⟨s2.toArray⟩] v (GiveR v (g1, g2))))
    (CG2 : Hid (∀ (p : Option Addr) (c : Nat) (v : World), M.length ≤ c → Lns v p M → G v → Calls Tryz.prog 16 #[.slice p M.length c, .string ⟨a2.toArray⟩, .string ⟨s2.toArray⟩] v (GiveR v (k1, k2))))
    (CT1 : Hid (∀ (p : Option Addr) (c : Nat) (v : World), M.length ≤ c → Lns v p M → G v → Calls Tryz.prog 18 #[.slice p M.length c, .string ⟨s.toArray⟩] v (GiveR v (u1, u2))))
    (CT2 : Hid (∀ v, Below w.heap.size w v → G v → Calls Tryz.prog 18 #[.slice p ls.length c, .string ⟨s.toArray⟩] v (GiveR v (t1, t2))))
    (CAT : Hid (∀ w, Calls Tryz.prog 24 #[.agg #[.string ⟨t1.toArray⟩, .string ⟨t2.toArray⟩], .agg #[.string ⟨n.toArray⟩, .string ⟨d.toArray⟩]] w (GiveR w (u1, u2)))) :
    Calls Tryz.prog 4 #[.slice p ls.length c, .agg #[.string ⟨a.toArray⟩, .string ⟨s.toArray⟩, .string ⟨n.toArray⟩, .string ⟨d.toArray⟩], .agg #[.string ⟨a2.toArray⟩, .string ⟨s2.toArray⟩, .string ⟨n2.toArray⟩, .string ⟨d2.toArray⟩]] w (GiveB w true) := by
  have EK := Lib.hid ek; have EK2 := Lib.hid ek2
  clear ek ek2
  have HB := Lib.hid H; have HT := Lib.hid hg; clear H hg
  have L0 := Lib.hid h; clear h
  go_enter Tryz.func4, Tryz.ntmps4
  go_wp2_with fail
  have BW := Below.refl w.heap.size w
  have b0 : Below w.heap.size w w := Below.refl _ _
  obtain ⟨U1, hU, bU, s1, rl0, rl1, rl2, rl3⟩ := lay4 b0 (.string ⟨a.toArray⟩) (.string ⟨s.toArray⟩) (.string ⟨n.toArray⟩) (.string ⟨d.toArray⟩) 27
  rw [hU]; clear hU
  replace L0 := Lib.hid (L0.out.below bU)
  replace BW := Below.more BW bU
  replace HT := Lib.hid (HB.out.below HT.out bU)
  clear bU
  have b1 := Below.refl U1.heap.size U1
  obtain ⟨U2, hU, bU, s2, rm0, rm1, rm2, rm3⟩ := lay4 b1 (.string ⟨a2.toArray⟩) (.string ⟨s2.toArray⟩) (.string ⟨n2.toArray⟩) (.string ⟨d2.toArray⟩) 27
  rw [hU]; clear hU
  rw [← s1] at rm0 rm1 rm2 rm3
  clear s2
  replace rl0 := fun v (h : Below U2.heap.size U2 v) => rl0 v (Below.more bU h)
  replace rl1 := fun v (h : Below U2.heap.size U2 v) => rl1 v (Below.more bU h)
  replace rl2 := fun v (h : Below U2.heap.size U2 v) => rl2 v (Below.more bU h)
  replace rl3 := fun v (h : Below U2.heap.size U2 v) => rl3 v (Below.more bU h)
  replace L0 := Lib.hid (L0.out.below bU)
  replace BW := Below.more BW bU
  replace HT := Lib.hid (HB.out.below HT.out bU)
  clear bU
  have b2 := Below.refl U2.heap.size U2
  clear s1
  go_wp2_with fail
  refine (fixed6_any HB.out _ (HB.out.below HT.out b2)).mono ?_
  rintro e w3 ⟨rfl, b⟩
  have b3 := Below.more b2 b
  clear b
  go_wp2_with fail
  refine (CS1.out _ (Below.more BW b3)).mono ?_
  rintro e w4 ⟨rfl, b⟩
  have b4 := Below.more b3 b
  clear b
  go_wp2_with fail
  refine (CS2.out _).mono ?_
  rintro e w5 ⟨rfl, b⟩
  have b5 := Below.more b4 b
  clear b
  go_wp2_with fail
  refine (CMR.out _ (Below.more BW b5)).mono ?_
  rintro e w6 ⟨rfl, b⟩
  have b6 := Below.more b5 b
  clear b
  go_wp2_with fail
  refine (CL1.out _).mono ?_
  rintro e w7 ⟨rfl, b⟩
  have b7 := Below.more b6 b
  clear b
  go_wp2_with fail
  refine (CL2.out _).mono ?_
  rintro e w8 ⟨rfl, b⟩
  have b8 := Below.more b7 b
  clear b
  go_wp2_with fail
  refine (CA1.out _ (Below.more BW b8) (HB.out.below HT.out b8)).mono ?_
  rintro e U9 ⟨⟨pr1, c1, rfl, hc1, hl1⟩, b⟩
  have bU := Below.more b8 b
  clear b
  replace rl0 := fun v (h : Below U9.heap.size U9 v) => rl0 v (Below.more bU h)
  replace rl1 := fun v (h : Below U9.heap.size U9 v) => rl1 v (Below.more bU h)
  replace rl2 := fun v (h : Below U9.heap.size U9 v) => rl2 v (Below.more bU h)
  replace rl3 := fun v (h : Below U9.heap.size U9 v) => rl3 v (Below.more bU h)
  replace rm0 := fun v (h : Below U9.heap.size U9 v) => rm0 v (Below.more bU h)
  replace rm1 := fun v (h : Below U9.heap.size U9 v) => rm1 v (Below.more bU h)
  replace rm2 := fun v (h : Below U9.heap.size U9 v) => rm2 v (Below.more bU h)
  replace rm3 := fun v (h : Below U9.heap.size U9 v) => rm3 v (Below.more bU h)
  replace L0 := Lib.hid (L0.out.below bU)
  replace BW := Below.more BW bU
  replace HT := Lib.hid (HB.out.below HT.out bU)
  have L1 := Lib.hid hl1
  clear hl1 bU
  have b9 := Below.refl U9.heap.size U9
  have ba := fun x => Below.alloc b9 (Nat.le_refl _) x
  go_upto_region 5 with fail
  have hq := qc_new U9 (.string ⟨a.toArray⟩) (.string ⟨s.toArray⟩) (.string ⟨n.toArray⟩) (.string ⟨d.toArray⟩) 27
  have bz := ba (.cells #[.string ⟨a.toArray⟩, .string ⟨s.toArray⟩, .string ⟨n.toArray⟩, .string ⟨d.toArray⟩] 27)
  generalize U9.alloc (.cells #[.string ⟨a.toArray⟩, .string ⟨s.toArray⟩, .string ⟨n.toArray⟩, .string ⟨d.toArray⟩] 27) = V at hq bz ⊢
  go_wp2_with fail
  refine (CNG.out _).mono ?_
  rintro e wz ⟨rfl, b⟩
  replace bz := bz.trans (b.mono bz.size)
  replace hq := hq.below b
  clear b ba CNG
  have z0 := hq.c0; have z1 := hq.c1; have z2 := hq.c2; have z3 := hq.c3; have z4 := hq.f2; have z5 := hq.f3
  go_upto_region 6 with fail
  replace hq := hq.put (.string ⟨nn.toArray⟩) (.string ⟨dn.toArray⟩)
  replace bz : Below U9.heap.size U9 _ := Below.setCell (Below.setCell bz (p := ⟨U9.heap.size, 2, none⟩) (Nat.le_refl _) (.string ⟨nn.toArray⟩)) (p := ⟨U9.heap.size, 3, none⟩) (Nat.le_refl _) (.string ⟨dn.toArray⟩)
  generalize (wz.setCell ⟨U9.heap.size, 2, none⟩ (.string ⟨nn.toArray⟩)).setCell ⟨U9.heap.size, 3, none⟩ (.string ⟨dn.toArray⟩) = Y at hq bz ⊢
  clear z0 z1 z2 z3 z4 z5
  replace rl0 := fun v (h : Below Y.heap.size Y v) => rl0 v (Below.more bz h)
  replace rl1 := fun v (h : Below Y.heap.size Y v) => rl1 v (Below.more bz h)
  replace rl2 := fun v (h : Below Y.heap.size Y v) => rl2 v (Below.more bz h)
  replace rl3 := fun v (h : Below Y.heap.size Y v) => rl3 v (Below.more bz h)
  replace rm0 := fun v (h : Below Y.heap.size Y v) => rm0 v (Below.more bz h)
  replace rm1 := fun v (h : Below Y.heap.size Y v) => rm1 v (Below.more bz h)
  replace rm2 := fun v (h : Below Y.heap.size Y v) => rm2 v (Below.more bz h)
  replace rm3 := fun v (h : Below Y.heap.size Y v) => rm3 v (Below.more bz h)
  replace L0 := Lib.hid (L0.out.below bz)
  replace L1 := Lib.hid (L1.out.below bz)
  replace BW := Below.more BW bz
  replace HT := Lib.hid (HB.out.below HT.out bz)
  have rb0 := fun v (h : Below Y.heap.size Y v) => (hq.below h).c0
  have rb1 := fun v (h : Below Y.heap.size Y v) => (hq.below h).c1
  have rb2 := fun v (h : Below Y.heap.size Y v) => (hq.below h).c2
  have rb3 := fun v (h : Below Y.heap.size Y v) => (hq.below h).c3
  clear hq bz
  have b20 := Below.refl Y.heap.size Y
  go_wp2_with fail
  refine (CA2.out _ _ _ hc1 (L1.out.below b20) (HB.out.below HT.out b20)).mono ?_
  rintro e U21 ⟨⟨pr2, c2, rfl, hc2, hl2⟩, b⟩
  have bU := Below.more b20 b
  clear b
  replace rl0 := fun v (h : Below U21.heap.size U21 v) => rl0 v (Below.more bU h)
  replace rl1 := fun v (h : Below U21.heap.size U21 v) => rl1 v (Below.more bU h)
  replace rl2 := fun v (h : Below U21.heap.size U21 v) => rl2 v (Below.more bU h)
  replace rl3 := fun v (h : Below U21.heap.size U21 v) => rl3 v (Below.more bU h)
  replace rm0 := fun v (h : Below U21.heap.size U21 v) => rm0 v (Below.more bU h)
  replace rm1 := fun v (h : Below U21.heap.size U21 v) => rm1 v (Below.more bU h)
  replace rm2 := fun v (h : Below U21.heap.size U21 v) => rm2 v (Below.more bU h)
  replace rm3 := fun v (h : Below U21.heap.size U21 v) => rm3 v (Below.more bU h)
  replace rb0 := fun v (h : Below U21.heap.size U21 v) => rb0 v (Below.more bU h)
  replace rb1 := fun v (h : Below U21.heap.size U21 v) => rb1 v (Below.more bU h)
  replace rb2 := fun v (h : Below U21.heap.size U21 v) => rb2 v (Below.more bU h)
  replace rb3 := fun v (h : Below U21.heap.size U21 v) => rb3 v (Below.more bU h)
  replace L0 := Lib.hid (L0.out.below bU)
  replace L1 := Lib.hid (L1.out.below bU)
  replace BW := Below.more BW bU
  replace HT := Lib.hid (HB.out.below HT.out bU)
  have L2 := Lib.hid hl2
  clear hl2 bU
  have b21 := Below.refl U21.heap.size U21
  go_wp2_with fail
  refine (CA3.out _ _ _ hc1 (L1.out.below b21) (HB.out.below HT.out b21)).mono ?_
  rintro e U22 ⟨⟨pr3, c3, rfl, hc3, hl3⟩, b⟩
  have bU := Below.more b21 b
  clear b
  replace rl0 := fun v (h : Below U22.heap.size U22 v) => rl0 v (Below.more bU h)
  replace rl1 := fun v (h : Below U22.heap.size U22 v) => rl1 v (Below.more bU h)
  replace rl2 := fun v (h : Below U22.heap.size U22 v) => rl2 v (Below.more bU h)
  replace rl3 := fun v (h : Below U22.heap.size U22 v) => rl3 v (Below.more bU h)
  replace rm0 := fun v (h : Below U22.heap.size U22 v) => rm0 v (Below.more bU h)
  replace rm1 := fun v (h : Below U22.heap.size U22 v) => rm1 v (Below.more bU h)
  replace rm2 := fun v (h : Below U22.heap.size U22 v) => rm2 v (Below.more bU h)
  replace rm3 := fun v (h : Below U22.heap.size U22 v) => rm3 v (Below.more bU h)
  replace rb0 := fun v (h : Below U22.heap.size U22 v) => rb0 v (Below.more bU h)
  replace rb1 := fun v (h : Below U22.heap.size U22 v) => rb1 v (Below.more bU h)
  replace rb2 := fun v (h : Below U22.heap.size U22 v) => rb2 v (Below.more bU h)
  replace rb3 := fun v (h : Below U22.heap.size U22 v) => rb3 v (Below.more bU h)
  replace L0 := Lib.hid (L0.out.below bU)
  replace L1 := Lib.hid (L1.out.below bU)
  replace L2 := Lib.hid (L2.out.below bU)
  replace BW := Below.more BW bU
  replace HT := Lib.hid (HB.out.below HT.out bU)
  have L3 := Lib.hid hl3
  clear hl3 bU
  have b22 := Below.refl U22.heap.size U22
  go_wp2_with fail
  refine (CA4.out _ (Below.more BW b22) (HB.out.below HT.out b22)).mono ?_
  rintro e U23 ⟨⟨pr4, c4, rfl, hc4, hl4⟩, b⟩
  have bU := Below.more b22 b
  clear b
  replace rl0 := fun v (h : Below U23.heap.size U23 v) => rl0 v (Below.more bU h)
  replace rl1 := fun v (h : Below U23.heap.size U23 v) => rl1 v (Below.more bU h)
  replace rl2 := fun v (h : Below U23.heap.size U23 v) => rl2 v (Below.more bU h)
  replace rl3 := fun v (h : Below U23.heap.size U23 v) => rl3 v (Below.more bU h)
  replace rm0 := fun v (h : Below U23.heap.size U23 v) => rm0 v (Below.more bU h)
  replace rm1 := fun v (h : Below U23.heap.size U23 v) => rm1 v (Below.more bU h)
  replace rm2 := fun v (h : Below U23.heap.size U23 v) => rm2 v (Below.more bU h)
  replace rm3 := fun v (h : Below U23.heap.size U23 v) => rm3 v (Below.more bU h)
  replace rb0 := fun v (h : Below U23.heap.size U23 v) => rb0 v (Below.more bU h)
  replace rb1 := fun v (h : Below U23.heap.size U23 v) => rb1 v (Below.more bU h)
  replace rb2 := fun v (h : Below U23.heap.size U23 v) => rb2 v (Below.more bU h)
  replace rb3 := fun v (h : Below U23.heap.size U23 v) => rb3 v (Below.more bU h)
  replace L0 := Lib.hid (L0.out.below bU)
  replace L1 := Lib.hid (L1.out.below bU)
  replace L2 := Lib.hid (L2.out.below bU)
  replace L3 := Lib.hid (L3.out.below bU)
  replace BW := Below.more BW bU
  replace HT := Lib.hid (HB.out.below HT.out bU)
  have L4 := Lib.hid hl4
  clear hl4 bU
  have b23 := Below.refl U23.heap.size U23
  go_wp2_with fail
  refine (CA5.out _ _ _ hc4 (L4.out.below b23) (HB.out.below HT.out b23)).mono ?_
  rintro e U24 ⟨⟨pr5, c5, rfl, hc5, hl5⟩, b⟩
  have bU := Below.more b23 b
  clear b
  replace rl0 := fun v (h : Below U24.heap.size U24 v) => rl0 v (Below.more bU h)
  replace rl1 := fun v (h : Below U24.heap.size U24 v) => rl1 v (Below.more bU h)
  replace rl2 := fun v (h : Below U24.heap.size U24 v) => rl2 v (Below.more bU h)
  replace rl3 := fun v (h : Below U24.heap.size U24 v) => rl3 v (Below.more bU h)
  replace rm0 := fun v (h : Below U24.heap.size U24 v) => rm0 v (Below.more bU h)
  replace rm1 := fun v (h : Below U24.heap.size U24 v) => rm1 v (Below.more bU h)
  replace rm2 := fun v (h : Below U24.heap.size U24 v) => rm2 v (Below.more bU h)
  replace rm3 := fun v (h : Below U24.heap.size U24 v) => rm3 v (Below.more bU h)
  replace rb0 := fun v (h : Below U24.heap.size U24 v) => rb0 v (Below.more bU h)
  replace rb1 := fun v (h : Below U24.heap.size U24 v) => rb1 v (Below.more bU h)
  replace rb2 := fun v (h : Below U24.heap.size U24 v) => rb2 v (Below.more bU h)
  replace rb3 := fun v (h : Below U24.heap.size U24 v) => rb3 v (Below.more bU h)
  replace L0 := Lib.hid (L0.out.below bU)
  replace L1 := Lib.hid (L1.out.below bU)
  replace L2 := Lib.hid (L2.out.below bU)
  replace L3 := Lib.hid (L3.out.below bU)
  replace L4 := Lib.hid (L4.out.below bU)
  replace BW := Below.more BW bU
  replace HT := Lib.hid (HB.out.below HT.out bU)
  have L5 := Lib.hid hl5
  clear hl5 bU
  have b24 := Below.refl U24.heap.size U24
  go_wp2_with fail
  refine (CMP.out _ _ _ hc1 (L1.out.below b24) (HB.out.below HT.out b24)).mono ?_
  rintro e w25 ⟨rfl, b⟩
  have b25 := Below.more b24 b
  clear b
  go_wp2_with fail
  refine (same_row _ _ _ _ ls _ h0 (L2.out.below b25) (L0.out.below b25)).mono ?_
  rintro e w26 ⟨rfl, b⟩
  have b26 := Below.more b25 b
  clear b
  go_wp2_with fail
  refine (same_row _ _ _ _ M2 _ h2 (L3.out.below b26) (L5.out.below b26)).mono ?_
  rintro e w27 ⟨rfl, b⟩
  have b27 := Below.more b26 b
  clear b
  clear CS1 CS2 CMR CL1 CL2 CA1 CA2 CA3 CA4 CA5 CMP rb0 rb1 rb2 rb3 L0 L2 L3 L4 L5
  go_upto_region 13 with fail
  have hB := Lib.hid (Nat.le_refl U24.heap.size)
  go_cut [19, 20] from 121 to 132 (fun t19 t20 wx => (∃ p q, t19 = .pointer (some ⟨p, 0, none⟩) ∧ t20 = .pointer (some ⟨q, 0, none⟩) ∧ Zc p (.string ⟨g1.toArray⟩) (.string ⟨g2.toArray⟩) wx ∧ Zc q (.string ⟨k1.toArray⟩) (.string ⟨k2.toArray⟩) wx) ∧ Below U24.heap.size U24 wx)
  case first =>
    first | (go_region_held3 (fun w' => Below U24.heap.size U24 w')
      (repeat' (first | (with_reducible assumption) | (with_reducible refine Below.drew ?_) | (with_reducible refine up_alloc ?_ _) | (with_reducible refine put2 ?_ (by first | exact Nat.le_refl _ | exact Below.size (by with_reducible assumption) | exact Nat.le_trans (Below.size (by with_reducible assumption)) (Nat.le_add_right _ _)) _ _)))
      (first | (go_at_call 16; (with_reducible show Calls _ _ #[.slice p ls.length c, .string ⟨a2.toArray⟩, .string ⟨s2.toArray⟩] _ _); (with_reducible refine (held (W := U24) hB.out (CG1.out _ (Below.more BW (by with_reducible assumption)) (HB.out.below HT.out (by with_reducible assumption))) (by assumption)).mono ?_); rintro e w'' ⟨rfl, hb, hw⟩; (first | ((have hza := Zc.below (by first | (with_reducible exact hza) | (with_reducible exact hza.drew) | (with_reducible exact zc_up hza _) | (with_reducible exact zc_up hza.drew _)) hb); (have hzb := Zc.below (by first | (with_reducible exact hzb) | (with_reducible exact hzb.drew) | (with_reducible exact zc_up hzb _) | (with_reducible exact zc_up hzb.drew _)) hb)) | ((have hne := hza.lt); (have hza := Zc.below (by first | (with_reducible exact hza) | (with_reducible exact hza.drew) | (with_reducible exact zc_up hza _) | (with_reducible exact zc_up hza.drew _)) hb); (first | (have hzb := zc_made0 hb) | (have hzb := zc_made hb) | (have hzb := zc_madeD hb))) | (have hza := Zc.below (by first | (with_reducible exact hza) | (with_reducible exact hza.drew) | (with_reducible exact zc_up hza _) | (with_reducible exact zc_up hza.drew _)) hb) | (first | (have hza := zc_low hb; have hzb := zc_top hb; have hne := low_top hb) | (have hza := zc_lowD hb; have hzb := zc_topD hb; have hne := low_topD hb)) | (first | (have hza := zc_made0 hb) | (have hza := zc_made hb) | (have hza := zc_madeD hb)) | skip); (try (have p0 := hza.c0; have p1 := hza.c1; have p2 := hza.f0; have p3 := hza.f1; have p4 := hza.lt; have p5 := fun o => (zc_up hza o).c0; have p6 := fun o => (zc_up hza o).c1; have p7 := fun o => (zc_up hza o).f0; have p8 := fun o => (zc_up hza o).f1)); (try (have q0 := hzb.c0; have q1 := hzb.c1; have q2 := hzb.f0; have q3 := hzb.f1; have q4 := hzb.lt; have q5 := Nat.ne_of_lt hne; have q6 := (Nat.ne_of_lt hne).symm; have q7 := fun s t => (zc_far (s := s) (t := t) (Nat.ne_of_lt hne).symm hzb).c0; have q8 := fun s t => (zc_far (s := s) (t := t) (Nat.ne_of_lt hne).symm hzb).c1; have q9 := fun s t => (zc_far (s := s) (t := t) (Nat.ne_of_lt hne) hza).c0; have q10 := fun s t => (zc_far (s := s) (t := t) (Nat.ne_of_lt hne) hza).c1))) | (go_at_call 16; (with_reducible show Calls _ _ #[.slice pr1 M.length c1, .string ⟨a2.toArray⟩, .string ⟨s2.toArray⟩] _ _); (with_reducible refine (held (W := U24) hB.out (CG2.out _ _ _ hc1 (L1.out.below (by with_reducible assumption)) (HB.out.below HT.out (by with_reducible assumption))) (by assumption)).mono ?_); rintro e w'' ⟨rfl, hb, hw⟩; (first | ((have hza := Zc.below (by first | (with_reducible exact hza) | (with_reducible exact hza.drew) | (with_reducible exact zc_up hza _) | (with_reducible exact zc_up hza.drew _)) hb); (have hzb := Zc.below (by first | (with_reducible exact hzb) | (with_reducible exact hzb.drew) | (with_reducible exact zc_up hzb _) | (with_reducible exact zc_up hzb.drew _)) hb)) | ((have hne := hza.lt); (have hza := Zc.below (by first | (with_reducible exact hza) | (with_reducible exact hza.drew) | (with_reducible exact zc_up hza _) | (with_reducible exact zc_up hza.drew _)) hb); (first | (have hzb := zc_made0 hb) | (have hzb := zc_made hb) | (have hzb := zc_madeD hb))) | (have hza := Zc.below (by first | (with_reducible exact hza) | (with_reducible exact hza.drew) | (with_reducible exact zc_up hza _) | (with_reducible exact zc_up hza.drew _)) hb) | (first | (have hza := zc_low hb; have hzb := zc_top hb; have hne := low_top hb) | (have hza := zc_lowD hb; have hzb := zc_topD hb; have hne := low_topD hb)) | (first | (have hza := zc_made0 hb) | (have hza := zc_made hb) | (have hza := zc_madeD hb)) | skip); (try (have p0 := hza.c0; have p1 := hza.c1; have p2 := hza.f0; have p3 := hza.f1; have p4 := hza.lt; have p5 := fun o => (zc_up hza o).c0; have p6 := fun o => (zc_up hza o).c1; have p7 := fun o => (zc_up hza o).f0; have p8 := fun o => (zc_up hza o).f1)); (try (have q0 := hzb.c0; have q1 := hzb.c1; have q2 := hzb.f0; have q3 := hzb.f1; have q4 := hzb.lt; have q5 := Nat.ne_of_lt hne; have q6 := (Nat.ne_of_lt hne).symm; have q7 := fun s t => (zc_far (s := s) (t := t) (Nat.ne_of_lt hne).symm hzb).c0; have q8 := fun s t => (zc_far (s := s) (t := t) (Nat.ne_of_lt hne).symm hzb).c1; have q9 := fun s t => (zc_far (s := s) (t := t) (Nat.ne_of_lt hne) hza).c0; have q10 := fun s t => (zc_far (s := s) (t := t) (Nat.ne_of_lt hne) hza).c1))))) | fail
    all_goals (try clear p0 p1 p2 p3 p4 p5 p6 p7 p8)
    all_goals (try clear q0 q1 q2 q3 q4 q7 q8 q9 q10)
    all_goals (go_wp2_with fail)
    all_goals (go_meet)
    all_goals (exact ⟨⟨_, _, rfl, rfl, (by (repeat' (first | exact zc_new _ _ _ _ | exact zc_is (by simp) _ _ _ | (with_reducible assumption) | refine zc_up ?_ _ | refine zc_setZ ?_ | (refine zc_far (by first | assumption | omega) ?_) | refine Zc.drew ?_))), (by (repeat' (first | exact zc_new _ _ _ _ | exact zc_is (by simp) _ _ _ | (with_reducible assumption) | refine zc_up ?_ _ | refine zc_setZ ?_ | (refine zc_far (by first | assumption | omega) ?_) | refine Zc.drew ?_)))⟩, by (repeat' (first | (with_reducible assumption) | (with_reducible refine Below.drew ?_) | (with_reducible refine up_alloc ?_ _) | (with_reducible refine put2 ?_ (by first | exact Nat.le_refl _ | exact Below.size (by with_reducible assumption) | exact Nat.le_trans (Below.size (by with_reducible assumption)) (Nat.le_add_right _ _)) _ _)))⟩)
  case rest =>
    obtain ⟨⟨pp, qq, rfl, rfl, hz, hy⟩, hcc⟩ := hcut
    clear hB
    have ek := EK.out; have ek2 := EK2.out
    clear EK EK2
    subst ek ek2
    replace rl0 := fun v (h : Below wc.heap.size wc v) => rl0 v (Below.more hcc h)
    replace rl1 := fun v (h : Below wc.heap.size wc v) => rl1 v (Below.more hcc h)
    replace rl2 := fun v (h : Below wc.heap.size wc v) => rl2 v (Below.more hcc h)
    replace rl3 := fun v (h : Below wc.heap.size wc v) => rl3 v (Below.more hcc h)
    replace rm0 := fun v (h : Below wc.heap.size wc v) => rm0 v (Below.more hcc h)
    replace rm1 := fun v (h : Below wc.heap.size wc v) => rm1 v (Below.more hcc h)
    replace rm2 := fun v (h : Below wc.heap.size wc v) => rm2 v (Below.more hcc h)
    replace rm3 := fun v (h : Below wc.heap.size wc v) => rm3 v (Below.more hcc h)
    replace L1 := Lib.hid (L1.out.below hcc)
    replace BW := Below.more BW hcc
    replace HT := Lib.hid (HB.out.below HT.out hcc)
    have ra0 := fun v (h : Below wc.heap.size wc v) => (hz.below h).c0
    have ra1 := fun v (h : Below wc.heap.size wc v) => (hz.below h).c1
    have rc0 := fun v (h : Below wc.heap.size wc v) => (hy.below h).c0
    have rc1 := fun v (h : Below wc.heap.size wc v) => (hy.below h).c1
    have b40 := Below.refl wc.heap.size wc
    clear hz hy hcc
    have hB := Lib.hid (Nat.le_refl wc.heap.size)
    go_wp2_with fail
    refine wp_region_noPanic ?_
    refine wp_region_held_drew (S := fun w' => Below wc.heap.size wc w') (by kernel_rfl) (b40.drew) (fun hH0 => ?_)
    refine wpAnyH_take (i := 0) (v := ?_) rfl (by kernel_rfl) (by kernel_rfl) (by kernel_rfl) (fun _ _ _ h => h) (Or.inl ⟨by rfl, ?_⟩) (by assumption) ?_
    rotate_left 1
    · (intro w hSw; (try dsimp only at hSw); go_simp <;> (with_reducible rfl))
    try simp only [Act.put, List.getElem_toArray, List.getElem_cons_succ, List.getElem_cons_zero, List.setIfInBounds_toArray, List.set_cons_zero, List.set_cons_succ]
    refine wpAnyH_take (i := 1) (v := ?_) rfl (by kernel_rfl) (by kernel_rfl) (by kernel_rfl) (fun _ _ _ h => h) (Or.inl ⟨by rfl, ?_⟩) (by assumption) ?_
    rotate_left 1
    · (intro w hSw; (try dsimp only at hSw); go_simp <;> (with_reducible rfl))
    try simp only [Act.put, List.getElem_toArray, List.getElem_cons_succ, List.getElem_cons_zero, List.setIfInBounds_toArray, List.set_cons_zero, List.set_cons_succ]
    refine wpAnyH_take (i := 2) (v := undef) rfl (by kernel_rfl) (by kernel_rfl) (by kernel_rfl) (fun _ _ _ h => h) (Or.inr ⟨by rfl, rfl⟩) (by assumption) ?_
    try simp only [Act.put, List.getElem_toArray, List.getElem_cons_succ, List.getElem_cons_zero, List.setIfInBounds_toArray, List.set_cons_zero, List.set_cons_succ]
    refine wpAnyH_take (i := 3) (v := undef) rfl (by kernel_rfl) (by kernel_rfl) (by kernel_rfl) (fun _ _ _ h => h) (Or.inr ⟨by rfl, rfl⟩) (by assumption) ?_
    try simp only [Act.put, List.getElem_toArray, List.getElem_cons_succ, List.getElem_cons_zero, List.setIfInBounds_toArray, List.set_cons_zero, List.set_cons_succ]
    refine wpAnyH_take (i := 4) (v := undef) rfl (by kernel_rfl) (by kernel_rfl) (by kernel_rfl) (fun _ _ _ h => h) (Or.inr ⟨by rfl, rfl⟩) (by assumption) ?_
    try simp only [Act.put, List.getElem_toArray, List.getElem_cons_succ, List.getElem_cons_zero, List.setIfInBounds_toArray, List.set_cons_zero, List.set_cons_succ]
    refine wpAnyH_take (i := 5) (v := undef) rfl (by kernel_rfl) (by kernel_rfl) (by kernel_rfl) (fun _ _ _ h => h) (Or.inr ⟨by rfl, rfl⟩) (by assumption) ?_
    try simp only [Act.put, List.getElem_toArray, List.getElem_cons_succ, List.getElem_cons_zero, List.setIfInBounds_toArray, List.set_cons_zero, List.set_cons_succ]
    refine wpAnyH_take (i := 6) (v := undef) rfl (by kernel_rfl) (by kernel_rfl) (by kernel_rfl) (fun _ _ _ h => h) (Or.inr ⟨by rfl, rfl⟩) (by assumption) ?_
    try simp only [Act.put, List.getElem_toArray, List.getElem_cons_succ, List.getElem_cons_zero, List.setIfInBounds_toArray, List.set_cons_zero, List.set_cons_succ]
    refine wpAnyH_take (i := 7) (v := undef) rfl (by kernel_rfl) (by kernel_rfl) (by kernel_rfl) (fun _ _ _ h => h) (Or.inr ⟨by rfl, rfl⟩) (by assumption) ?_
    try simp only [Act.put, List.getElem_toArray, List.getElem_cons_succ, List.getElem_cons_zero, List.setIfInBounds_toArray, List.set_cons_zero, List.set_cons_succ]
    refine wpAnyH_take (i := 8) (v := ?_) rfl (by kernel_rfl) (by kernel_rfl) (by kernel_rfl) (fun _ _ _ h => h) (Or.inl ⟨by rfl, ?_⟩) (by assumption) ?_
    rotate_left 1
    · (intro w hSw; (try dsimp only at hSw); go_simp <;> (with_reducible rfl))
    try simp only [Act.put, List.getElem_toArray, List.getElem_cons_succ, List.getElem_cons_zero, List.setIfInBounds_toArray, List.set_cons_zero, List.set_cons_succ]
    refine wpAnyH_take (i := 9) (v := ?_) rfl (by kernel_rfl) (by kernel_rfl) (by kernel_rfl) (fun _ _ _ h => h) (Or.inl ⟨by rfl, ?_⟩) (by assumption) ?_
    rotate_left 1
    · (intro w hSw; (try dsimp only at hSw); go_simp <;> (with_reducible rfl))
    try simp only [Act.put, List.getElem_toArray, List.getElem_cons_succ, List.getElem_cons_zero, List.setIfInBounds_toArray, List.set_cons_zero, List.set_cons_succ]
    refine wpAnyH_take (i := 10) (v := ?_) rfl (by kernel_rfl) (by kernel_rfl) (by kernel_rfl) (fun _ _ _ h => h) (Or.inl ⟨by rfl, ?_⟩) (by assumption) ?_
    rotate_left 1
    · (intro w hSw; (try dsimp only at hSw); go_simp <;> (with_reducible rfl))
    try simp only [Act.put, List.getElem_toArray, List.getElem_cons_succ, List.getElem_cons_zero, List.setIfInBounds_toArray, List.set_cons_zero, List.set_cons_succ]
    refine wpAnyH_take (i := 11) (v := ?_) rfl (by kernel_rfl) (by kernel_rfl) (by kernel_rfl) (fun _ _ _ h => h) (Or.inl ⟨by rfl, ?_⟩) (by assumption) ?_
    rotate_left 1
    · (intro w hSw; (try dsimp only at hSw); go_simp <;> (with_reducible rfl))
    try simp only [Act.put, List.getElem_toArray, List.getElem_cons_succ, List.getElem_cons_zero, List.setIfInBounds_toArray, List.set_cons_zero, List.set_cons_succ]
    refine wpAnyH_take (i := 12) (v := ?_) rfl (by kernel_rfl) (by kernel_rfl) (by kernel_rfl) (fun _ _ _ h => h) (Or.inl ⟨by rfl, ?_⟩) (by assumption) ?_
    rotate_left 1
    · (intro w hSw; (try dsimp only at hSw); go_simp <;> (with_reducible rfl))
    try simp only [Act.put, List.getElem_toArray, List.getElem_cons_succ, List.getElem_cons_zero, List.setIfInBounds_toArray, List.set_cons_zero, List.set_cons_succ]
    refine wpAnyH_take (i := 13) (v := ?_) rfl (by kernel_rfl) (by kernel_rfl) (by kernel_rfl) (fun _ _ _ h => h) (Or.inl ⟨by rfl, ?_⟩) (by assumption) ?_
    rotate_left 1
    · (intro w hSw; (try dsimp only at hSw); go_simp <;> (with_reducible rfl))
    try simp only [Act.put, List.getElem_toArray, List.getElem_cons_succ, List.getElem_cons_zero, List.setIfInBounds_toArray, List.set_cons_zero, List.set_cons_succ]
    refine wpAnyH_take (i := 14) (v := ?_) rfl (by kernel_rfl) (by kernel_rfl) (by kernel_rfl) (fun _ _ _ h => h) (Or.inl ⟨by rfl, ?_⟩) (by assumption) ?_
    rotate_left 1
    · (intro w hSw; (try dsimp only at hSw); go_simp <;> (with_reducible rfl))
    try simp only [Act.put, List.getElem_toArray, List.getElem_cons_succ, List.getElem_cons_zero, List.setIfInBounds_toArray, List.set_cons_zero, List.set_cons_succ]
    refine wpAnyH_take (i := 15) (v := ?_) rfl (by kernel_rfl) (by kernel_rfl) (by kernel_rfl) (fun _ _ _ h => h) (Or.inl ⟨by rfl, ?_⟩) (by assumption) ?_
    rotate_left 1
    · (intro w hSw; (try dsimp only at hSw); go_simp <;> (with_reducible rfl))
    try simp only [Act.put, List.getElem_toArray, List.getElem_cons_succ, List.getElem_cons_zero, List.setIfInBounds_toArray, List.set_cons_zero, List.set_cons_succ]
    refine wpAnyH_take (i := 16) (v := ?_) rfl (by kernel_rfl) (by kernel_rfl) (by kernel_rfl) (fun _ _ _ h => h) (Or.inl ⟨by rfl, ?_⟩) (by assumption) ?_
    rotate_left 1
    · (intro w hSw; (try dsimp only at hSw); go_simp <;> (with_reducible rfl))
    try simp only [Act.put, List.getElem_toArray, List.getElem_cons_succ, List.getElem_cons_zero, List.setIfInBounds_toArray, List.set_cons_zero, List.set_cons_succ]
    refine wpAnyH_take (i := 17) (v := ?_) rfl (by kernel_rfl) (by kernel_rfl) (by kernel_rfl) (fun _ _ _ h => h) (Or.inl ⟨by rfl, ?_⟩) (by assumption) ?_
    rotate_left 1
    · (intro w hSw; (try dsimp only at hSw); go_simp <;> (with_reducible rfl))
    try simp only [Act.put, List.getElem_toArray, List.getElem_cons_succ, List.getElem_cons_zero, List.setIfInBounds_toArray, List.set_cons_zero, List.set_cons_succ]
    refine wpAnyH_take (i := 18) (v := ?_) rfl (by kernel_rfl) (by kernel_rfl) (by kernel_rfl) (fun _ _ _ h => h) (Or.inl ⟨by rfl, ?_⟩) (by assumption) ?_
    rotate_left 1
    · (intro w hSw; (try dsimp only at hSw); go_simp <;> (with_reducible rfl))
    try simp only [Act.put, List.getElem_toArray, List.getElem_cons_succ, List.getElem_cons_zero, List.setIfInBounds_toArray, List.set_cons_zero, List.set_cons_succ]
    refine wpAnyH_take (i := 19) (v := ?_) rfl (by kernel_rfl) (by kernel_rfl) (by kernel_rfl) (fun _ _ _ h => h) (Or.inl ⟨by rfl, ?_⟩) (by assumption) ?_
    rotate_left 1
    · (intro w hSw; (try dsimp only at hSw); go_simp <;> (with_reducible rfl))
    try simp only [Act.put, List.getElem_toArray, List.getElem_cons_succ, List.getElem_cons_zero, List.setIfInBounds_toArray, List.set_cons_zero, List.set_cons_succ]
    refine wpAnyH_take (i := 20) (v := ?_) rfl (by kernel_rfl) (by kernel_rfl) (by kernel_rfl) (fun _ _ _ h => h) (Or.inl ⟨by rfl, ?_⟩) (by assumption) ?_
    rotate_left 1
    · (intro w hSw; (try dsimp only at hSw); go_simp <;> (with_reducible rfl))
    try simp only [Act.put, List.getElem_toArray, List.getElem_cons_succ, List.getElem_cons_zero, List.setIfInBounds_toArray, List.set_cons_zero, List.set_cons_succ]
    refine wpAnyH_take (i := 21) (v := ?_) rfl (by kernel_rfl) (by kernel_rfl) (by kernel_rfl) (fun _ _ _ h => h) (Or.inl ⟨by rfl, ?_⟩) (by assumption) ?_
    rotate_left 1
    · (intro w hSw; (try dsimp only at hSw); go_simp <;> (with_reducible rfl))
    try simp only [Act.put, List.getElem_toArray, List.getElem_cons_succ, List.getElem_cons_zero, List.setIfInBounds_toArray, List.set_cons_zero, List.set_cons_succ]
    refine wpAnyH_take (i := 23) (v := ?_) rfl (by kernel_rfl) (by kernel_rfl) (by kernel_rfl) (fun _ _ _ h => h) (Or.inl ⟨by rfl, ?_⟩) (by assumption) ?_
    rotate_left 1
    · (intro w hSw; (try dsimp only at hSw); go_simp <;> (with_reducible rfl))
    try simp only [Act.put, List.getElem_toArray, List.getElem_cons_succ, List.getElem_cons_zero, List.setIfInBounds_toArray, List.set_cons_zero, List.set_cons_succ]
    refine wpAnyH_take (i := 24) (v := ?_) rfl (by kernel_rfl) (by kernel_rfl) (by kernel_rfl) (fun _ _ _ h => h) (Or.inl ⟨by rfl, ?_⟩) (by assumption) ?_
    rotate_left 1
    · (intro w hSw; (try dsimp only at hSw); go_simp <;> (with_reducible rfl))
    try simp only [Act.put, List.getElem_toArray, List.getElem_cons_succ, List.getElem_cons_zero, List.setIfInBounds_toArray, List.set_cons_zero, List.set_cons_succ]
    refine wpAnyH_take (i := 25) (v := ?_) rfl (by kernel_rfl) (by kernel_rfl) (by kernel_rfl) (fun _ _ _ h => h) (Or.inl ⟨by rfl, ?_⟩) (by assumption) ?_
    rotate_left 1
    · (intro w hSw; (try dsimp only at hSw); go_simp <;> (with_reducible rfl))
    try simp only [Act.put, List.getElem_toArray, List.getElem_cons_succ, List.getElem_cons_zero, List.setIfInBounds_toArray, List.set_cons_zero, List.set_cons_succ]
    refine wpAnyH_take (i := 27) (v := ?_) rfl (by kernel_rfl) (by kernel_rfl) (by kernel_rfl) (fun _ _ _ h => h) (Or.inl ⟨by rfl, ?_⟩) (by assumption) ?_
    rotate_left 1
    · (intro w hSw; (try dsimp only at hSw); go_simp <;> (with_reducible rfl))
    try simp only [Act.put, List.getElem_toArray, List.getElem_cons_succ, List.getElem_cons_zero, List.setIfInBounds_toArray, List.set_cons_zero, List.set_cons_succ]
    refine wpAnyH_take (i := 28) (v := ?_) rfl (by kernel_rfl) (by kernel_rfl) (by kernel_rfl) (fun _ _ _ h => h) (Or.inl ⟨by rfl, ?_⟩) (by assumption) ?_
    rotate_left 1
    · (intro w hSw; (try dsimp only at hSw); go_simp <;> (with_reducible rfl))
    try simp only [Act.put, List.getElem_toArray, List.getElem_cons_succ, List.getElem_cons_zero, List.setIfInBounds_toArray, List.set_cons_zero, List.set_cons_succ]
    refine wpAnyH_ready (rs := [22]) (by kernel_rfl) (by simp) ?_
    refine AllReadyH.cons rfl (fun K hK => ?_) AllReadyH.nil
    go_simp
    refine (held (W := wc) hB.out (CT1.out _ _ _ hc1 (L1.out.below (by assumption)) (HB.out.below HT.out (by assumption))) (by assumption)).mono ?_
    rintro e w'' ⟨rfl, hb, hw⟩
    (try go_wp2_with fail)
    refine hK.out _ _ hw (fun hH1 => ?_)
    clear hK hH0 hb
    try simp only [Act.put, List.getElem_toArray, List.getElem_cons_succ, List.getElem_cons_zero, List.setIfInBounds_toArray, List.set_cons_zero, List.set_cons_succ]
    refine wpAnyH_ready (rs := [26]) (by kernel_rfl) (by simp) ?_
    refine AllReadyH.cons rfl (fun K hK => ?_) AllReadyH.nil
    go_simp
    refine (held (W := wc) hB.out (CT2.out _ (Below.more BW (by assumption)) (HB.out.below HT.out (by assumption))) (by assumption)).mono ?_
    rintro e w'' ⟨rfl, hb, hw⟩
    (try go_wp2_with fail)
    refine hK.out _ _ hw (fun hH2 => ?_)
    clear hK hH1 hb
    try simp only [Act.put, List.getElem_toArray, List.getElem_cons_succ, List.getElem_cons_zero, List.setIfInBounds_toArray, List.set_cons_zero, List.set_cons_succ]
    refine wpAnyH_ready (rs := [29]) (by kernel_rfl) (by simp) ?_
    refine AllReadyH.cons rfl (fun K hK => ?_) AllReadyH.nil
    go_simp
    refine (held (W := wc) hB.out (CAT.out _) (by assumption)).mono ?_
    rintro e w'' ⟨rfl, hb, hw⟩
    (try go_wp2_with fail)
    refine hK.out _ _ hw (fun hH3 => ?_)
    clear hK hH2 hb
    try simp only [Act.put, List.getElem_toArray, List.getElem_cons_succ, List.getElem_cons_zero, List.setIfInBounds_toArray, List.set_cons_zero, List.set_cons_succ]
    refine wpAnyH_take (i := 30) (v := ?_) rfl (by kernel_rfl) (by kernel_rfl) (by kernel_rfl) (fun _ _ _ h => h) (Or.inl ⟨by rfl, ?_⟩) (by assumption) ?_
    rotate_left 1
    · (intro w hSw; (try dsimp only at hSw); go_simp <;> (with_reducible rfl))
    try simp only [Act.put, List.getElem_toArray, List.getElem_cons_succ, List.getElem_cons_zero, List.setIfInBounds_toArray, List.set_cons_zero, List.set_cons_succ]
    refine wpAnyH_take (i := 31) (v := ?_) rfl (by kernel_rfl) (by kernel_rfl) (by kernel_rfl) (fun _ _ _ h => h) (Or.inl ⟨by rfl, ?_⟩) (by assumption) ?_
    rotate_left 1
    · (intro w hSw; (try dsimp only at hSw); go_simp <;> (with_reducible rfl))
    try simp only [Act.put, List.getElem_toArray, List.getElem_cons_succ, List.getElem_cons_zero, List.setIfInBounds_toArray, List.set_cons_zero, List.set_cons_succ]
    refine wpAnyH_take (i := 32) (v := ?_) rfl (by kernel_rfl) (by kernel_rfl) (by kernel_rfl) (fun _ _ _ h => h) (Or.inl ⟨by rfl, ?_⟩) (by assumption) ?_
    rotate_left 1
    · (intro w hSw; (try dsimp only at hSw); go_simp <;> (with_reducible rfl))
    try simp only [Act.put, List.getElem_toArray, List.getElem_cons_succ, List.getElem_cons_zero, List.setIfInBounds_toArray, List.set_cons_zero, List.set_cons_succ]
    refine wpAnyH_done (by kernel_rfl) ?_ _
    refine NoPanic.normal ?_
    have b41 := hw
    clear hw
    go_wp2_with fail
    go_ret
    exact ⟨ret_bool (by first | rfl | simp [*]), Below.more BW b41⟩
end Go.Proofs.YtemnimbedmkagaaGreatDoor
