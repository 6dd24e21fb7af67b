/- The walk of PostTells. -/
import Derived.Test.YtamibckbebifkaaGreatDoorSch
import Derived.Test.YtamibckbebifkaaGreatDoorFixP
namespace Go.Proofs.YtamibckbebifkaaGreatDoor
open Go.RowKit
set_option linter.unusedSimpArgs false
set_option linter.unusedVariables false
variable {G : World → Prop}
theorem apply_len (ls ms : List Ln) (cov : Bool) (h1 : ls.length ≤ 1000) (h2 : ms.length ≤ 1000) : (applyB ls ms cov).1.length ≤ 4611686018427387904 := by
  unfold applyB
  split
  · rename_i hm
    split
    · rename_i hb
      split
      · exact Nat.zero_le _
      · have h := addAll_len (good_iff.1 hm) (balB_iff.1 hb).1
        show (addAll ls ms).length ≤ _
        omega
    · exact Nat.zero_le _
  · exact Nat.zero_le _
theorem same_rows (p q : Option Addr) (c c' : Nat) (ls : List Ln) (w : World) (hl : ls.length ≤ 4611686018427387904) (h : Lns w p ls) (h' : Lns w q ls) : Calls Tryz.prog 13 #[.slice p ls.length c, .slice q ls.length c'] w (GiveB w true) := by
  have k := rbsame_any p q c c' ls ls w hl hl h h'
  rw [beq_self_eq_true] at k
  exact k
set_option maxRecDepth 100000 in
set_option maxHeartbeats 4000000 in
theorem tells7_b (H : PostC G) (p : Option Addr) (c : Nat) (ls : List Ln) (q : Option Addr) (d : Nat) (ms : List Ln) (cov : Bool) (w : World) (hg : G w)
    (CS1 : Hid (∀ V, Below w.heap.size w V → Calls Tryz.prog 7 #[.slice p ls.length c] V (GiveB V false))) :
    Calls Tryz.prog 3 #[.slice p ls.length c, .slice q ms.length d, .bool cov] w (GiveB w true) := by
  have HB := Lib.hid H; have HT := Lib.hid hg; clear H hg
  go_enter Tryz.func3, Tryz.ntmps3
  go_wp2_with fail
  have BW := Below.refl w.heap.size w
  have b0 : Below w.heap.size w w := Below.refl _ _
  refine (CS1.out _ (Below.more BW b0)).mono ?_
  rintro e w1 ⟨rfl, b⟩
  have b1 := Below.more b0 b
  clear b
  go_wp2_with fail
  refine (fixed7_any HB.out _ (HB.out.below HT.out b1)).mono ?_
  rintro e w2 ⟨rfl, b⟩
  have b2 := Below.more b1 b
  clear b
  go_wp2_with fail
  go_ret
  exact ⟨rfl, Below.more BW b2⟩
set_option maxRecDepth 100000 in
set_option maxHeartbeats 4000000 in
theorem tells7_l (H : PostC G) (p : Option Addr) (c : Nat) (ls : List Ln) (q : Option Addr) (d : Nat) (ms : List Ln) (cov : Bool) (w : World) (hg : G w)
    (CS1 : Hid (∀ V, Below w.heap.size w V → Calls Tryz.prog 7 #[.slice p ls.length c] V (GiveB V true)))
    (CS2 : Hid (∀ V, Below w.heap.size w V → Calls Tryz.prog 7 #[.slice q ms.length d] V (GiveB V false))) :
    Calls Tryz.prog 3 #[.slice p ls.length c, .slice q ms.length d, .bool cov] w (GiveB w true) := by
  have HB := Lib.hid H; have HT := Lib.hid hg; clear H hg
  go_enter Tryz.func3, Tryz.ntmps3
  go_wp2_with fail
  have BW := Below.refl w.heap.size w
  have b0 : Below w.heap.size w w := Below.refl _ _
  refine (CS1.out _ (Below.more BW b0)).mono ?_
  rintro e w1 ⟨rfl, b⟩
  have b1 := Below.more b0 b
  clear b
  go_wp2_with fail
  refine (CS2.out _ (Below.more BW b1)).mono ?_
  rintro e w2 ⟨rfl, b⟩
  have b2 := Below.more b1 b
  clear b
  go_wp2_with fail
  refine (fixed7_any HB.out _ (HB.out.below HT.out b2)).mono ?_
  rintro e w3 ⟨rfl, b⟩
  have b3 := Below.more b2 b
  clear b
  go_wp2_with fail
  go_ret
  exact ⟨rfl, Below.more BW b3⟩
set_option maxRecDepth 100000 in
set_option maxHeartbeats 4000000 in
theorem tells7_main (H : PostC G) (p : Option Addr) (c : Nat) (ls : List Ln) (q : Option Addr) (d : Nat) (ms : List Ln) (cov : Bool) (w : World) (hg : G w) (hM : Lns w q ms) (R : List Ln × Int) (hR : R.1.length ≤ 4611686018427387904) (bl : Bool) (fr : Nat → Bool) (hm : ms.length ≤ 4611686018427387904)
    (CS1 : Hid (∀ V, Below w.heap.size w V → Calls Tryz.prog 7 #[.slice p ls.length c] V (GiveB V true)))
    (CS2 : Hid (∀ V, Below w.heap.size w V → Calls Tryz.prog 7 #[.slice q ms.length d] V (GiveB V true)))
    (CA : Hid (∀ V, Below w.heap.size w V → G V → Calls Tryz.prog 9 #[.slice p ls.length c, .slice q ms.length d, .bool cov] V (GiveLE V R)))
    (CR : Hid (∀ V, Below w.heap.size w V → Calls Tryz.prog 10 #[.slice p ls.length c, .slice q ms.length d, .bool cov] V (GiveLE V R)))
    (CF : Hid (∀ (k : Nat) (x : Ln), ms[k]? = some x → ∀ V, Below w.heap.size w V → G V → Calls Tryz.prog 11 #[.string ⟨x.1.1.toArray⟩] V (GiveB V (fr k))))
    (CG : Hid (∀ (k : Nat) (x : Ln), ms[k]? = some x → ∀ V, Calls Tryz.prog 12 #[.string ⟨x.1.1.toArray⟩] V (GiveB V (fr k))))
    (CB1 : Hid (∀ V, Below w.heap.size w V → G V → Calls Tryz.prog 14 #[.slice q ms.length d] V (GiveB V bl)))
    (CB2 : Hid (∀ V, Below w.heap.size w V → Calls Tryz.prog 15 #[.slice q ms.length d] V (GiveB V bl))) :
    Calls Tryz.prog 3 #[.slice p ls.length c, .slice q ms.length d, .bool cov] w (GiveB w true) := by
  have HM := Lib.hid hM; clear hM
  have HB := Lib.hid H; have HT := Lib.hid hg; clear H hg
  go_enter Tryz.func3, Tryz.ntmps3
  go_wp2_with fail
  have BW := Below.refl w.heap.size w
  have b0 : Below w.heap.size w w := Below.refl _ _
  refine (CS1.out _ (Below.more BW b0)).mono ?_
  rintro e w1 ⟨rfl, b⟩
  have b1 := Below.more b0 b
  clear b
  go_wp2_with fail
  refine (CS2.out _ (Below.more BW b1)).mono ?_
  rintro e w2 ⟨rfl, b⟩
  have b2 := Below.more b1 b
  clear b
  go_wp2_with fail
  refine (CA.out _ (Below.more BW b2) (HB.out.below HT.out b2)).mono ?_
  rintro e U3 ⟨⟨pr1, c1, rfl, hc1, hl1⟩, b⟩
  have bU := Below.more b2 b
  clear b
  replace BW := Below.more BW bU
  replace HT := Lib.hid (HB.out.below HT.out bU)
  have L1 := Lib.hid hl1
  clear hl1 bU
  have b3 := Below.refl U3.heap.size U3
  go_wp2_with fail
  refine (CR.out _ (Below.more BW b3)).mono ?_
  rintro e U4 ⟨⟨pr2, c2, rfl, hc2, hl2⟩, b⟩
  have bU := Below.more b3 b
  clear b
  replace L1 := Lib.hid (L1.out.below bU)
  replace BW := Below.more BW bU
  replace HT := Lib.hid (HB.out.below HT.out bU)
  have L2 := Lib.hid hl2
  clear hl2 bU
  have b4 := Below.refl U4.heap.size U4
  clear CS1 CS2 CA CR
  go_wp2_with fail
  go_loopw [11] (fun i wr => ∃ k : Nat, k ≤ ms.length ∧ i = .int .i64 k ∧ Below U4.heap.size U4 wr) (fun i _ => ms.length - (intOf i).toNat)
  case atStart => exact ⟨0, Nat.zero_le _, rfl, Below.refl _ _⟩
  case round =>
    obtain ⟨k, hk, rfl, hw⟩ := hrel
    have HW := Lib.hid hw
    by_cases hlt : k < ms.length
    · obtain ⟨⟨⟨a, s⟩, ⟨n, dd⟩⟩, hx⟩ : ∃ x, ms[k]? = some x := ⟨_, List.getElem?_eq_getElem hlt⟩
      obtain ⟨b, o, rfl, k0, k1, k2, k3⟩ := (HM.out.below (Below.more BW hw)).rule hx
      have cf := fun V (hv : Below wr.heap.size wr V) => CF.out k _ hx V (Below.more BW (Below.more HW.out hv)) (HB.out.below HT.out (Below.more HW.out hv))
      have cg := CG.out k _ hx
      dsimp only at cf cg
      generalize fr k = f at *
      have CF1 := Lib.hid cf; have CG1 := Lib.hid cg
      have b0 := Below.refl wr.heap.size wr
      have hB := Lib.hid (Nat.le_refl wr.heap.size)
      clear cf cg hx hw k1 k2 k3
      go_wp2_with fail
      refine wp_region_noPanic ?_
      refine wp_region_held_drew (S := fun w' => Below wr.heap.size wr w') (by kernel_rfl) (b0.drew) (fun hH0 => ?_)
      refine sch_in [0, 1, 2, 3, 4, 6, 7, 8, 9, 10] ?_
      iterate 10 (refine sch_yes (v := ?_) rfl (by kernel_rfl) (by rfl) ?_ (by assumption) ?_; rotate_left 1; (· (intro w hSw; (try dsimp only at hSw); go_simp <;> (with_reducible rfl))); try simp only [Act.put, List.getElem_toArray, List.getElem_cons_succ, List.getElem_cons_zero, List.setIfInBounds_toArray, List.set_cons_zero, List.set_cons_succ])
      refine sch_out ?_
      refine wpAnyH_ready (rs := [5]) (by kernel_rfl) (by simp) ?_
      refine AllReadyH.cons rfl (fun K hK => ?_) AllReadyH.nil
      go_simp
      refine (held (W := wr) hB.out (CF1.out _ (by with_reducible assumption)) (by assumption)).mono ?_
      rintro e w'' ⟨rfl, hb, hw⟩
      (try go_wp2_with fail)
      refine hK.out _ _ hw (fun hH1 => ?_)
      clear hK hH0 hb
      try simp only [Act.put, List.getElem_toArray, List.getElem_cons_succ, List.getElem_cons_zero, List.setIfInBounds_toArray, List.set_cons_zero, List.set_cons_succ]
      refine wpAnyH_ready (rs := [11]) (by kernel_rfl) (by simp) ?_
      refine AllReadyH.cons rfl (fun K hK => ?_) AllReadyH.nil
      go_simp
      refine (held (W := wr) hB.out (CG1.out _) (by assumption)).mono ?_
      rintro e w'' ⟨rfl, hb, hw⟩
      (try go_wp2_with fail)
      refine hK.out _ _ hw (fun hH2 => ?_)
      clear hK hH1 hb
      try simp only [Act.put, List.getElem_toArray, List.getElem_cons_succ, List.getElem_cons_zero, List.setIfInBounds_toArray, List.set_cons_zero, List.set_cons_succ]
      refine wpAnyH_take (i := 12) (v := ?_) rfl (by kernel_rfl) (by kernel_rfl) (by kernel_rfl) (fun _ _ _ h => h) (Or.inl ⟨by rfl, ?_⟩) (by assumption) ?_
      rotate_left 1
      · (intro w hSw; (try dsimp only at hSw); go_simp <;> (with_reducible rfl))
      try simp only [Act.put, List.getElem_toArray, List.getElem_cons_succ, List.getElem_cons_zero, List.setIfInBounds_toArray, List.set_cons_zero, List.set_cons_succ]
      refine wpAnyH_done (by kernel_rfl) ?_ _
      refine NoPanic.normal ?_
      have b9 := hw
      clear hw
      cases f with
      | true =>
        go_wp2_with fail
        go_roundw
        case rel => exact ⟨k + 1, hlt, by go_num, Below.more HW.out b9⟩
        case measure => simp [intOf]; omega
      | false =>
        go_wp2_with fail
        go_roundw
        case rel => exact ⟨k + 1, hlt, by go_num, Below.more HW.out b9⟩
        case measure => simp [intOf]; omega
    · obtain rfl : k = ms.length := by omega
      clear hw CF CG
      have BX := Below.more BW HW.out
      have HT2 := Lib.hid (HB.out.below HT.out HW.out)
      have L1 := Lib.hid (L1.out.below HW.out)
      have L2 := Lib.hid (L2.out.below HW.out)
      clear BW HW HT
      have HT := HT2
      clear HT2
      have BW := BX
      clear BX
      have b20 := Below.refl wr.heap.size wr
      go_wp2_with fail
      refine (fixed7_any HB.out _ (HB.out.below HT.out b20)).mono ?_
      rintro e w21 ⟨rfl, b⟩
      have b21 := Below.more b20 b
      clear b
      go_wp2_with fail
      refine (same_rows _ _ _ _ R.1 _ hR (L1.out.below b21) (L2.out.below b21)).mono ?_
      rintro e w22 ⟨rfl, b⟩
      have b22 := Below.more b21 b
      clear b
      go_wp2_with fail
      refine (CB1.out _ (Below.more BW b22) (HB.out.below HT.out b22)).mono ?_
      rintro e w23 ⟨rfl, b⟩
      have b23 := Below.more b22 b
      clear b
      go_wp2_with fail
      refine (CB2.out _ (Below.more BW b23)).mono ?_
      rintro e w24 ⟨rfl, b⟩
      have b24 := Below.more b23 b
      clear b
      go_wp2_with fail
      go_ret
      exact ⟨rfl, Below.more BW b24⟩
theorem tells7_any (H : PostC G) (p : Option Addr) (c : Nat) (ls : List Ln) (q : Option Addr) (d : Nat) (ms : List Ln) (cov : Bool) (w : World) (hc : ls.length ≤ c) (hd : ms.length ≤ d) (hl : ls.length ≤ 4611686018427387904) (hm : ms.length ≤ 4611686018427387904) (hL : Lns w p ls) (hM : Lns w q ms) (hg : G w) :
    Calls Tryz.prog 3 #[.slice p ls.length c, .slice q ms.length d, .bool cov] w (GiveB w true) := by
  have c1 := fun V (hv : Below w.heap.size w V) => rbsmall_any p c ls V hc hl (hL.below hv)
  have c2 := fun V (hv : Below w.heap.size w V) => rbsmall_any q d ms V hd hm (hM.below hv)
  cases h1 : smB ls with
  | false => rw [h1] at c1; exact tells7_b H p c ls q d ms cov w hg (Lib.hid c1)
  | true =>
  rw [h1] at c1
  cases h2 : smB ms with
  | false => rw [h2] at c2; exact tells7_l H p c ls q d ms cov w hg (Lib.hid c1) (Lib.hid c2)
  | true =>
  rw [h2] at c2
  obtain ⟨s1, n1⟩ := smB_iff.1 h1
  obtain ⟨s2, n2⟩ := smB_iff.1 h2
  have s3 : ∀ x ∈ ls ++ ms, shL x = true := fun x hx => (List.mem_append.1 hx).elim (s1 x) (s2 x)
  have way : Way (Dp (ls ++ ms)) Ms ls ms := small_way s1 s2 (fun x hx => List.mem_append.2 (.inl hx)) (fun x hx => List.mem_append.2 (.inr hx)) s3 (by rw [List.length_append]; omega) (by omega)
  have z1 : ∀ x ∈ ls, SzF x := fun x hx => shL_fit (s1 x hx)
  have z2 : ∀ x ∈ ms, SzF x := fun x hx => shL_fit (s2 x hx)
  exact tells7_main H p c ls q d ms cov w hg hM (applyB ls ms cov) (apply_len ls ms cov (by omega) (by omega)) (balB ms) (fun k => match ms[k]? with | some x => isFree x.1.1 | none => true) hm (Lib.hid c1) (Lib.hid c2)
    (Lib.hid fun V hv hgv => H.apply p c ls q d ms cov _ _ V hc hd (by omega) (by omega) z1 z2 way (hL.below hv) (hM.below hv) hgv)
    (Lib.hid fun V hv => rpapply_any p c ls q d ms cov V hc hd (by omega) (by omega) z1 z2 way (hL.below hv) (hM.below hv))
    (Lib.hid fun k x hx V hv hgv => by rw [hx]; exact H.free ⟨x.1.1.toArray⟩ V hgv)
    (Lib.hid fun k x hx V => by rw [hx]; exact calm (rpfree_any ⟨x.1.1.toArray⟩ V))
    (Lib.hid fun V hv hgv => H.bal q d ms _ _ V hd (by omega) z2 (way.z.mono (Nat.mul_le_mul_left _ (by omega))) way.t2 (hM.below hv) hgv)
    (Lib.hid fun V hv => rpbal_any q d ms V hd (by omega) z2 (way.z.mono (Nat.mul_le_mul_left _ (by omega))) way.t2 (hM.below hv))
end Go.Proofs.YtamibckbebifkaaGreatDoor
