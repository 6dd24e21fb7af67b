/- Whether a book may be. -/
import Derived.Test.YtagfndkfjbbpjaaGreatDoorSch
import Derived.Test.YtagfndkfjbbpjaaGreatDoorAllRefB2
namespace Go.Proofs.YtagfndkfjbbpjaaGreatDoor
open Go.RowKit
set_option linter.unusedSimpArgs false
set_option linter.unusedVariables false
def SzL (x : Ln) : Prop := (x.1.1.length ≤ 4611686018427387904 ∧ x.1.2.length ≤ 4611686018427387904) ∧ (x.2.1.length ≤ 20000 ∧ x.2.2.length ≤ 20000)
theorem okAt_no {ls : List Ln} {k : Nat} {x : Ln} (hx : ls[k]? = some x) (h : lineIn x = false) : okAt ls k = false := by
 unfold okAt; rw [hx]
 show (lineIn x && _) = false
 rw [h, Bool.false_and]
theorem okAt_0 {ls : List Ln} {x : Ln} (hx : ls[0]? = some x) (h : lineIn x = true) : okAt ls 0 = true := by
 unfold okAt; rw [hx]
 show (lineIn x && _) = true
 rw [h]; rfl
theorem okAt_s {ls : List Ln} {m : Nat} {x y : Ln} (hx : ls[m + 1]? = some x) (hy : ls[m]? = some y) (h : lineIn x = true) : okAt ls (m + 1) = aheadK y.1 x.1 := by
 unfold okAt; rw [hx]
 show (lineIn x && (decide (m + 1 = 0) || (match ls[m + 1 - 1]? with | some y => aheadK y.1 x.1 | none => false))) = _
 rw [h, decide_eq_false (Nat.succ_ne_zero m), Nat.add_sub_cancel, hy]; rfl
theorem line_in {a s n d : List UInt8} {v : Bool} {z : Int} (h1 : lineOk ((a, s), (n, d)) = v) (h2 : sgnR (n, d) = z) : lineIn ((a, s), (n, d)) = (v && !(z == 0)) := by
 unfold lineIn; rw [h1]; show (v && !(sgnR (n, d) == 0)) = _; rw [h2]
theorem mayB_end {ls : List Ln} (h : ∀ j, j < ls.length → okAt ls j = true) : mayB ls = true := mayB_iff.2 h
theorem less_more {P : Nat → Bool} {k : Nat} (h : ∀ j, j < k → P j = true) (hp : P k = true) : ∀ j, j < k + 1 → P j = true := fun j hj => by
 by_cases e : j = k
 ·exact e ▸ hp
 ·exact h j (by omega)
set_option maxRecDepth 100000 in
set_option maxHeartbeats 4000000 in
theorem rbmay_any (p : Option Addr) (c : Nat) (ls : List Ln) (w : World) (hc : ls.length ≤ c) (hl : ls.length ≤ 4611686018427387904) (hz : ∀ x ∈ ls, SzL x) (h : Lns w p ls) :
  Calls Tryz.prog 22 #[.slice p ls.length c] w (GiveB w (mayB ls)) := by
 have HS := Lib.hid h; have HZ := Lib.hid hz; clear h hz
 go_enter Tryz.func22, Tryz.ntmps22
 go_wp2
 go_loopw [3] (fun i wr => ∃ k : Nat, k ≤ ls.length ∧ i = .int .i64 k ∧ Hid (∀ j, j < k → okAt ls j = true) ∧ Below w.heap.size w wr) (fun i _ => ls.length - (intOf i).toNat)
 case atStart => exact ⟨0, Nat.zero_le _, rfl, fun j h => absurd h (Nat.not_lt_zero j), Below.refl _ _⟩
 case round =>
  obtain ⟨k, hk, rfl, HJ, hw⟩ := hrel
  by_cases hlt : k < ls.length
  ·obtain ⟨⟨⟨a, s⟩, ⟨n, d⟩⟩, hx⟩ : ∃ x, ls[k]? = some x := ⟨_, List.getElem?_eq_getElem hlt⟩
   obtain ⟨b, o, rfl, k0, k1, k2, k3⟩ := (HS.out.below hw).rule hx
   obtain ⟨⟨z1, z2⟩, z3, z4⟩ := HZ.out _ (List.mem_of_getElem? hx)
   have cl := fun w => rbline_any a s n d w z1 z2 z3 z4
   have cg : ∀ w, Calls Tryz.prog 24 #[.agg #[.string ⟨n.toArray⟩, .string ⟨d.toArray⟩]] w (GiveI w (sgnR (n, d))) := fun w => rqsign_any ⟨n.toArray⟩ ⟨d.toArray⟩ w (by rw [size_of]; exact Nat.le_trans z3 (by decide)) (by rw [size_of]; exact Nat.le_trans z4 (by decide))
   have HX := Lib.hid hx; have HW := Lib.hid hw
   have b0 := Below.refl wr.heap.size wr
   have hB := Lib.hid (Nat.le_refl wr.heap.size)
   cases h1 : lineOk ((a, s), (n, d)) with
   | false =>
    have HO : Hid (mayB ls = false) := Lib.hid (mayB_stop hlt (okAt_no hx (by rw [line_in h1 rfl, Bool.false_and])))
    rw [h1] at cl
    have CL := Lib.hid cl
    clear hx hw z1 z2 z3 z4 h1 cl cg
    go_wp2_with fail
    refine wp_region_noPanic ?_
    refine wp_region_held_drew (S := fun w' => Below wr.heap.size wr w') (by kernel_rfl) (b0.drew) (fun hH0 => ?_)
    refine sch_in [0, 1, 2, 3] ?_
    iterate 4 (refine sch_yes (v := ?_) rfl (by kernel_rfl) (by rfl) ?_ (by assumption) ?_; rotate_left 1; (· (intro w hSw; (try dsimp only at hSw); go_simp <;> (with_reducible rfl))); try simp only [Act.put, qA, qB, qC, qD, qE, qF])
    refine sch_out ?_
    refine wpAnyH_ready (rs := [4]) (by kernel_rfl) (by simp) ?_
    refine AllReadyH.cons rfl (fun K hK => ?_) AllReadyH.nil
    go_simp
    refine (held (W := wr) hB.out (CL.out _) (by assumption)).mono ?_
    rintro e w'' ⟨rfl, hb, hw⟩
    (try go_wp2_with fail)
    refine hK.out _ _ hw (fun hH1 => ?_)
    clear hK hH0 hb
    try simp only [Act.put, qA, qB, qC, qD, qE, qF]
    refine sch_in [5, 6, 7, 8, 9, 10, 11, 12, 13, 14, 15, 16, 17, 18, 19, 20, 21, 22, 23, 24, 25, 26, 27, 28, 29, 30, 31] ?_
    iterate 27 (first | (refine sch_no rfl (by kernel_rfl) (by rfl) (by assumption) ?_; try simp only [Act.put, qA, qB, qC, qD, qE, qF]) | (refine sch_yes (v := ?_) rfl (by kernel_rfl) (by rfl) ?_ (by assumption) ?_; rotate_left 1; (· (intro w hSw; (try dsimp only at hSw); go_simp <;> (with_reducible rfl))); try simp only [Act.put, qA, qB, qC, qD, qE, qF]))
    refine sch_out ?_
    refine wpAnyH_done (by kernel_rfl) ?_ _
    refine NoPanic.normal ?_
    have b9 := hw
    clear hw
    go_wp2_with fail
    go_ret
    exact ⟨ret_bool (by rw [HO.out]), Below.more HW.out b9⟩
   | true =>
    rw [h1] at cl
    cases h2 : (sgnR (n, d) == 0) with
    | true =>
     have h2 := eq_of_beq h2
     have HO : Hid (mayB ls = false) := Lib.hid (mayB_stop hlt (okAt_no hx (by rw [line_in h1 h2]; rfl)))
     rw [h2] at cg
     have CL := Lib.hid cl; have CG := Lib.hid cg
     clear hx hw z1 z2 z3 z4 h1 h2 cl cg
     go_wp2_with fail
     refine wp_region_noPanic ?_
     refine wp_region_held_drew (S := fun w' => Below wr.heap.size wr w') (by kernel_rfl) (b0.drew) (fun hH0 => ?_)
     refine sch_in [0, 1, 2, 3] ?_
     iterate 4 (refine sch_yes (v := ?_) rfl (by kernel_rfl) (by rfl) ?_ (by assumption) ?_; rotate_left 1; (· (intro w hSw; (try dsimp only at hSw); go_simp <;> (with_reducible rfl))); try simp only [Act.put, qA, qB, qC, qD, qE, qF])
     refine sch_out ?_
     refine wpAnyH_ready (rs := [4]) (by kernel_rfl) (by simp) ?_
     refine AllReadyH.cons rfl (fun K hK => ?_) AllReadyH.nil
     go_simp
     refine (held (W := wr) hB.out (CL.out _) (by assumption)).mono ?_
     rintro e w'' ⟨rfl, hb, hw⟩
     (try go_wp2_with fail)
     refine hK.out _ _ hw (fun hH1 => ?_)
     clear hK hH0 hb
     try simp only [Act.put, qA, qB, qC, qD, qE, qF]
     refine sch_in [5, 6, 7, 8, 9, 10, 11] ?_
     iterate 7 (refine sch_yes (v := ?_) rfl (by kernel_rfl) (by rfl) ?_ (by assumption) ?_; rotate_left 1; (· (intro w hSw; (try dsimp only at hSw); go_simp <;> (with_reducible rfl))); try simp only [Act.put, qA, qB, qC, qD, qE, qF])
     refine sch_out ?_
     refine wpAnyH_ready (rs := [12]) (by kernel_rfl) (by simp) ?_
     refine AllReadyH.cons rfl (fun K hK => ?_) AllReadyH.nil
     go_simp
     refine (held (W := wr) hB.out (CG.out _) (by assumption)).mono ?_
     rintro e w'' ⟨rfl, hb, hw⟩
     (try go_wp2_with fail)
     refine hK.out _ _ hw (fun hH2 => ?_)
     clear hK hH1 hb
     try simp only [Act.put, qA, qB, qC, qD, qE, qF]
     refine sch_in [13, 14, 15, 16, 17, 18, 19, 20, 21, 22, 23, 24, 25, 26, 27, 28, 29, 30, 31] ?_
     iterate 19 (first | (refine sch_no rfl (by kernel_rfl) (by rfl) (by assumption) ?_; try simp only [Act.put, qA, qB, qC, qD, qE, qF]) | (refine sch_yes (v := ?_) rfl (by kernel_rfl) (by rfl) ?_ (by assumption) ?_; rotate_left 1; (· (intro w hSw; (try dsimp only at hSw); go_simp <;> (with_reducible rfl))); try simp only [Act.put, qA, qB, qC, qD, qE, qF]))
     refine sch_out ?_
     refine wpAnyH_done (by kernel_rfl) ?_ _
     refine NoPanic.normal ?_
     have b9 := hw
     clear hw
     go_wp2_with fail
     go_ret
     exact ⟨ret_bool (by rw [HO.out]), Below.more HW.out b9⟩
    | false =>
     have hin : lineIn ((a, s), (n, d)) = true := by rw [line_in h1 rfl, h2]; rfl
     generalize sgnR (n, d) = z at cg h2
     have h2' : (z = 0) = False := eq_false (ne_of_beq_false h2)
     cases k with
     | zero =>
      have HO : Hid (okAt ls 0 = true) := Lib.hid (okAt_0 hx hin)
      have CL := Lib.hid cl; have CG := Lib.hid cg
      clear hx hw z1 z2 z3 z4 h1 cl cg hin
      simp only [Nat.zero_mul, Nat.add_zero] at k0 k1 k2 k3
      go_wp2_with fail
      refine wp_region_noPanic ?_
      refine wp_region_held_drew (S := fun w' => Below wr.heap.size wr w') (by kernel_rfl) (b0.drew) (fun hH0 => ?_)
      refine sch_in [0, 1, 2, 3] ?_
      iterate 4 (refine sch_yes (v := ?_) rfl (by kernel_rfl) (by rfl) ?_ (by assumption) ?_; rotate_left 1; (· (intro w hSw; (try dsimp only at hSw); go_simp <;> (with_reducible rfl))); try simp only [Act.put, qA, qB, qC, qD, qE, qF])
      refine sch_out ?_
      refine wpAnyH_ready (rs := [4]) (by kernel_rfl) (by simp) ?_
      refine AllReadyH.cons rfl (fun K hK => ?_) AllReadyH.nil
      go_simp
      refine (held (W := wr) hB.out (CL.out _) (by assumption)).mono ?_
      rintro e w'' ⟨rfl, hb, hw⟩
      (try go_wp2_with fail)
      refine hK.out _ _ hw (fun hH1 => ?_)
      clear hK hH0 hb
      try simp only [Act.put, qA, qB, qC, qD, qE, qF]
      refine sch_in [5, 6, 7, 8, 9, 10, 11] ?_
      iterate 7 (refine sch_yes (v := ?_) rfl (by kernel_rfl) (by rfl) ?_ (by assumption) ?_; rotate_left 1; (· (intro w hSw; (try dsimp only at hSw); go_simp <;> (with_reducible rfl))); try simp only [Act.put, qA, qB, qC, qD, qE, qF])
      refine sch_out ?_
      refine wpAnyH_ready (rs := [12]) (by kernel_rfl) (by simp) ?_
      refine AllReadyH.cons rfl (fun K hK => ?_) AllReadyH.nil
      go_simp
      refine (held (W := wr) hB.out (CG.out _) (by assumption)).mono ?_
      rintro e w'' ⟨rfl, hb, hw⟩
      (try go_wp2_with fail)
      refine hK.out _ _ hw (fun hH2 => ?_)
      clear hK hH1 hb
      try simp only [Act.put, qA, qB, qC, qD, qE, qF]
      refine sch_in [13, 14, 15, 16, 17, 18, 19, 20, 21, 22, 23, 24, 25, 26, 27, 28, 29, 30, 31] ?_
      iterate 19 (first | (refine sch_no rfl (by kernel_rfl) (by rfl) (by assumption) ?_; try simp only [Act.put, qA, qB, qC, qD, qE, qF]) | (refine sch_yes (v := ?_) rfl (by kernel_rfl) (by rfl) ?_ (by assumption) ?_; rotate_left 1; (· (intro w hSw; (try dsimp only at hSw); go_simp <;> (with_reducible rfl))); try simp only [Act.put, qA, qB, qC, qD, qE, qF]))
      refine sch_out ?_
      refine wpAnyH_done (by kernel_rfl) ?_ _
      refine NoPanic.normal ?_
      have b9 := hw
      clear hw
      go_wp2_with fail
      go_roundw
      case rel => exact ⟨0 + 1, hlt, by go_num, less_more HJ.out HO.out, Below.more HW.out b9⟩
      case measure => simp [intOf]; omega
     | succ m =>
      obtain ⟨⟨⟨a', s'⟩, ⟨n', d'⟩⟩, hy⟩ : ∃ x, ls[m]? = some x := ⟨_, List.getElem?_eq_getElem (by omega)⟩
      have hrule := (HS.out.below hw).rule hy
      obtain ⟨b', o', hp', j0, j1, j2, j3⟩ := hrule
      obtain ⟨rfl, rfl⟩ : b = b' ∧ o = o' := by
       have := Option.some.inj hp'
       exact ⟨congrArg Addr.block this, congrArg Addr.off this⟩
      have ca := fun w => rbahead_any a' s' n' d' a s n d w
      have ho := okAt_s hx hy hin
      have ho : okAt ls (m + 1) = aheadK (a', s') (a, s) := ho
      have hwr : IntKind.i64.wrap (m : Int) = (m : Int) := IntWalk.i64_in _ (by omega)
      have hlm : (m : Int) < (ls.length : Int) := by omega
      have hpos : (0 : Int) < (m : Int) + 1 := by omega
      have hge : (0 : Int) ≤ (m : Int) + 1 := by omega
      cases h3 : aheadK (a', s') (a, s) with
      | false =>
       have HO : Hid (mayB ls = false) := Lib.hid (mayB_stop hlt (by rw [ho, h3]))
       rw [h3] at ca
       have CL := Lib.hid cl; have CG := Lib.hid cg; have CA := Lib.hid ca
       clear hx hy hw z1 z2 z3 z4 h1 cl cg ca hin ho h3 hp'
       go_wp2_with fail
       refine wp_region_noPanic ?_
       refine wp_region_held_drew (S := fun w' => Below wr.heap.size wr w') (by kernel_rfl) (b0.drew) (fun hH0 => ?_)
       refine sch_in [0, 1, 2, 3] ?_
       iterate 4 (refine sch_yes (v := ?_) rfl (by kernel_rfl) (by rfl) ?_ (by assumption) ?_; rotate_left 1; (· (intro w hSw; (try dsimp only at hSw); go_simp <;> (with_reducible rfl))); try simp only [Act.put, qA, qB, qC, qD, qE, qF])
       refine sch_out ?_
       refine wpAnyH_ready (rs := [4]) (by kernel_rfl) (by simp) ?_
       refine AllReadyH.cons rfl (fun K hK => ?_) AllReadyH.nil
       go_simp
       refine (held (W := wr) hB.out (CL.out _) (by assumption)).mono ?_
       rintro e w'' ⟨rfl, hb, hw⟩
       (try go_wp2_with fail)
       refine hK.out _ _ hw (fun hH1 => ?_)
       clear hK hH0 hb
       try simp only [Act.put, qA, qB, qC, qD, qE, qF]
       refine sch_in [5, 6, 7, 8, 9, 10, 11] ?_
       iterate 7 (refine sch_yes (v := ?_) rfl (by kernel_rfl) (by rfl) ?_ (by assumption) ?_; rotate_left 1; (· (intro w hSw; (try dsimp only at hSw); go_simp <;> (with_reducible rfl))); try simp only [Act.put, qA, qB, qC, qD, qE, qF])
       refine sch_out ?_
       refine wpAnyH_ready (rs := [12]) (by kernel_rfl) (by simp) ?_
       refine AllReadyH.cons rfl (fun K hK => ?_) AllReadyH.nil
       go_simp
       refine (held (W := wr) hB.out (CG.out _) (by assumption)).mono ?_
       rintro e w'' ⟨rfl, hb, hw⟩
       (try go_wp2_with fail)
       refine hK.out _ _ hw (fun hH2 => ?_)
       clear hK hH1 hb
       try simp only [Act.put, qA, qB, qC, qD, qE, qF]
       refine sch_in [13, 14, 15, 16, 17, 18, 19, 20, 21, 22, 23, 24, 25, 26, 27] ?_
       iterate 15 (refine sch_yes (v := ?_) rfl (by kernel_rfl) (by rfl) ?_ (by assumption) ?_; rotate_left 1; (· (intro w hSw; (try dsimp only at hSw); go_simp <;> (with_reducible rfl))); try simp only [Act.put, qA, qB, qC, qD, qE, qF])
       refine sch_out ?_
       refine wpAnyH_ready (rs := [28]) (by kernel_rfl) (by simp) ?_
       refine AllReadyH.cons rfl (fun K hK => ?_) AllReadyH.nil
       go_simp
       refine (held (W := wr) hB.out (CA.out _) (by assumption)).mono ?_
       rintro e w'' ⟨rfl, hb, hw⟩
       (try go_wp2_with fail)
       refine hK.out _ _ hw (fun hH3 => ?_)
       clear hK hH2 hb
       try simp only [Act.put, qA, qB, qC, qD, qE, qF]
       refine sch_in [29, 30, 31] ?_
       iterate 3 (refine sch_yes (v := ?_) rfl (by kernel_rfl) (by rfl) ?_ (by assumption) ?_; rotate_left 1; (· (intro w hSw; (try dsimp only at hSw); go_simp <;> (with_reducible rfl))); try simp only [Act.put, qA, qB, qC, qD, qE, qF])
       refine sch_out ?_
       refine wpAnyH_done (by kernel_rfl) ?_ _
       refine NoPanic.normal ?_
       have b9 := hw
       clear hw
       go_wp2_with fail
       go_ret
       exact ⟨ret_bool (by rw [HO.out]), Below.more HW.out b9⟩
      | true =>
       have HO : Hid (okAt ls (m + 1) = true) := Lib.hid (by rw [ho, h3])
       rw [h3] at ca
       have CL := Lib.hid cl; have CG := Lib.hid cg; have CA := Lib.hid ca
       clear hx hy hw z1 z2 z3 z4 h1 cl cg ca hin ho h3 hp'
       go_wp2_with fail
       refine wp_region_noPanic ?_
       refine wp_region_held_drew (S := fun w' => Below wr.heap.size wr w') (by kernel_rfl) (b0.drew) (fun hH0 => ?_)
       refine sch_in [0, 1, 2, 3] ?_
       iterate 4 (refine sch_yes (v := ?_) rfl (by kernel_rfl) (by rfl) ?_ (by assumption) ?_; rotate_left 1; (· (intro w hSw; (try dsimp only at hSw); go_simp <;> (with_reducible rfl))); try simp only [Act.put, qA, qB, qC, qD, qE, qF])
       refine sch_out ?_
       refine wpAnyH_ready (rs := [4]) (by kernel_rfl) (by simp) ?_
       refine AllReadyH.cons rfl (fun K hK => ?_) AllReadyH.nil
       go_simp
       refine (held (W := wr) hB.out (CL.out _) (by assumption)).mono ?_
       rintro e w'' ⟨rfl, hb, hw⟩
       (try go_wp2_with fail)
       refine hK.out _ _ hw (fun hH1 => ?_)
       clear hK hH0 hb
       try simp only [Act.put, qA, qB, qC, qD, qE, qF]
       refine sch_in [5, 6, 7, 8, 9, 10, 11] ?_
       iterate 7 (refine sch_yes (v := ?_) rfl (by kernel_rfl) (by rfl) ?_ (by assumption) ?_; rotate_left 1; (· (intro w hSw; (try dsimp only at hSw); go_simp <;> (with_reducible rfl))); try simp only [Act.put, qA, qB, qC, qD, qE, qF])
       refine sch_out ?_
       refine wpAnyH_ready (rs := [12]) (by kernel_rfl) (by simp) ?_
       refine AllReadyH.cons rfl (fun K hK => ?_) AllReadyH.nil
       go_simp
       refine (held (W := wr) hB.out (CG.out _) (by assumption)).mono ?_
       rintro e w'' ⟨rfl, hb, hw⟩
       (try go_wp2_with fail)
       refine hK.out _ _ hw (fun hH2 => ?_)
       clear hK hH1 hb
       try simp only [Act.put, qA, qB, qC, qD, qE, qF]
       refine sch_in [13, 14, 15, 16, 17, 18, 19, 20, 21, 22, 23, 24, 25, 26, 27] ?_
       iterate 15 (refine sch_yes (v := ?_) rfl (by kernel_rfl) (by rfl) ?_ (by assumption) ?_; rotate_left 1; (· (intro w hSw; (try dsimp only at hSw); go_simp <;> (with_reducible rfl))); try simp only [Act.put, qA, qB, qC, qD, qE, qF])
       refine sch_out ?_
       refine wpAnyH_ready (rs := [28]) (by kernel_rfl) (by simp) ?_
       refine AllReadyH.cons rfl (fun K hK => ?_) AllReadyH.nil
       go_simp
       refine (held (W := wr) hB.out (CA.out _) (by assumption)).mono ?_
       rintro e w'' ⟨rfl, hb, hw⟩
       (try go_wp2_with fail)
       refine hK.out _ _ hw (fun hH3 => ?_)
       clear hK hH2 hb
       try simp only [Act.put, qA, qB, qC, qD, qE, qF]
       refine sch_in [29, 30, 31] ?_
       iterate 3 (refine sch_yes (v := ?_) rfl (by kernel_rfl) (by rfl) ?_ (by assumption) ?_; rotate_left 1; (· (intro w hSw; (try dsimp only at hSw); go_simp <;> (with_reducible rfl))); try simp only [Act.put, qA, qB, qC, qD, qE, qF])
       refine sch_out ?_
       refine wpAnyH_done (by kernel_rfl) ?_ _
       refine NoPanic.normal ?_
       have b9 := hw
       clear hw
       go_wp2_with fail
       go_roundw
       case rel => exact ⟨(m + 1) + 1, hlt, by go_num, less_more HJ.out HO.out, Below.more HW.out b9⟩
       case measure => simp [intOf]; omega
  ·obtain rfl : k = ls.length := by omega
   have HR := Lib.hid (mayB_end HJ.out); have HW := Lib.hid hw; clear hw
   go_wp2_with fail
   go_ret
   exact ⟨ret_bool (by rw [HR.out]), HW.out⟩
end Go.Proofs.YtagfndkfjbbpjaaGreatDoor
