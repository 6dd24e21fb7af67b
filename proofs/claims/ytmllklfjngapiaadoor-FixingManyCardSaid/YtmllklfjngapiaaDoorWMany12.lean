/- FixingMany. -/
import Derived.Test.YtmllklfjngapiaaDoorFixF
namespace Go.Proofs.YtmllklfjngapiaaDoor
open Go.RowKit
set_option linter.unusedSimpArgs false
set_option linter.unusedVariables false
theorem many_step {n k : Nat} (hn : n ≤ 60) (h0 : 0 < k) (hk : k ≤ n) : Fx.setF (Fx.manyF [120] k (n - k)) (([120], (k : Int)), (wd (k : Int), [49])) = some (Fx.manyF [120] (k - 1) (n - (k - 1))) := by
  obtain ⟨m, rfl⟩ : ∃ m, k = m + 1 := ⟨k - 1, by omega⟩
  have h := Fx.many_set (a := [120]) (by decide) (i := m) (c := n - (m + 1)) (by omega)
  rw [show n - (m + 1) + 1 = n - m by omega] at h
  exact h
theorem many_sz {i c : Nat} (h : i + c ≤ 60) : ∀ x ∈ Fx.manyF [120] i c, SzX x := fun x hx => by
  obtain ⟨j, h1, h2, rfl⟩ := Fx.many_mem _ hx
  exact ⟨by simp, Nat.le_trans (len_int (a := (j : Int)) (by omega) (by omega)) (show 20 ≤ 20000 by decide), by simp⟩
theorem many_0 {n j : Nat} (h : j < n) : (Fx.manyF [120] 0 n)[j]? = some (([120], (j : Int) + 1), (wd ((j : Int) + 1), [49])) := by
  rw [Fx.many_at [120] n 0 j h, Nat.zero_add]; rfl
set_option maxRecDepth 100000 in
set_option maxHeartbeats 4000000 in
theorem mn12_1 (n : Int) (h1 : n < 0) (w : World) : Calls Tryd.prog 6 #[.int .i64 n] w (GiveB w true) := by
  have HT : Hid (NoB w) := Lib.hid (noB w)
  go_enter Tryd.func6, Tryd.ntmps6
  go_wp2_with fail
  have BW := Below.refl w.heap.size w
  have b0 : Below w.heap.size w w := Below.refl _ _
  refine (fixed12_any _).mono ?_
  rintro e w1 ⟨rfl, b⟩
  have b1 := Below.more b0 b
  clear b
  go_wp2_with fail
  refine (fixed12_any _).mono ?_
  rintro e w2 ⟨rfl, b⟩
  have b2 := Below.more b1 b
  clear b
  go_wp2_with fail
  go_ret
  exact ⟨ret_bool (by first | rfl | simp), Below.more BW b2⟩
set_option maxRecDepth 100000 in
set_option maxHeartbeats 4000000 in
theorem mn12_2 (n : Int) (h1 : ¬ n < 0) (h2 : 60 < n) (w : World) : Calls Tryd.prog 6 #[.int .i64 n] w (GiveB w true) := by
  have HT : Hid (NoB w) := Lib.hid (noB w)
  go_enter Tryd.func6, Tryd.ntmps6
  go_wp2_with fail
  have BW := Below.refl w.heap.size w
  have b0 : Below w.heap.size w w := Below.refl _ _
  refine (fixed12_any _).mono ?_
  rintro e w1 ⟨rfl, b⟩
  have b1 := Below.more b0 b
  clear b
  go_wp2_with fail
  refine (fixed12_any _).mono ?_
  rintro e w2 ⟨rfl, b⟩
  have b2 := Below.more b1 b
  clear b
  go_wp2_with fail
  go_ret
  exact ⟨ret_bool (by first | rfl | simp), Below.more BW b2⟩
set_option maxRecDepth 100000 in
set_option maxHeartbeats 4000000 in
theorem mn12_3 (n : Nat) (hn : n ≤ 60) (w : World) : Calls Tryd.prog 6 #[.int .i64 (n : Int)] w (GiveB w true) := by
  have HT : Hid (NoB w) := Lib.hid (noB w)
  go_enter Tryd.func6, Tryd.ntmps6
  go_wp2_with fail
  have BW := Below.refl w.heap.size w
  have b0 : Below w.heap.size w w := Below.refl _ _
  refine (fixed12_any _).mono ?_
  rintro e w1 ⟨rfl, b⟩
  have b1 := Below.more b0 b
  clear b
  have h1 : ¬ ((n : Int) < 0) := by omega
  have h2 : ¬ (60 < (n : Int)) := by omega
  have HC := Lib.hid b1
  go_upto_region 3 with fail
  clear h1 h2
  have hrow : Fxs (w1.alloc (.cells #[] 26)) (some ⟨w1.heap.size, 0, none⟩) (Fx.manyF [120] n (n - n)) := by rw [Nat.sub_self]; exact RowsG.nil _ _
  have bn : Below w1.heap.size w1 (w1.alloc (.cells #[] 26)) := Below.alloc (Below.refl _ _) (Nat.le_refl _) _
  have bq := Below.more HC.out bn
  go_wp2_with fail
  obtain ⟨Q, hQ⟩ : ∃ U, w1.alloc (.cells #[] 26) = U := ⟨_, rfl⟩
  rw [hQ] at hrow bq ⊢
  have HR0 := Lib.hid hrow
  have HB0 := Lib.hid bq
  clear hrow bn bq hQ b1
  have hl0 : (Fx.manyF [120] n (n - n)).length = 0 := by rw [Fx.many_len]; omega
  go_loopw [3, 4] (fun v i wr => ∃ (k : Nat) (p : Option Addr) (c : Nat), k ≤ n ∧ i = .int .i64 k ∧ v = .slice p (Fx.manyF [120] k (n - k)).length c ∧ (Fx.manyF [120] k (n - k)).length ≤ c ∧ Fxs wr p (Fx.manyF [120] k (n - k)) ∧ Below w.heap.size w wr) (fun _ i _ => (intOf i).toNat)
  case atStart => exact ⟨n, some ⟨w1.heap.size, 0, none⟩, 0, Nat.le_refl _, rfl, by rw [hl0], by rw [hl0]; exact Nat.le_refl _, HR0.out, HB0.out⟩
  case round =>
    clear HR0 HB0 hl0
    obtain ⟨k, p, c, hk, rfl, rfl, hc, hrow, hw⟩ := hrel
    have HR := Lib.hid hrow
    have HW := Lib.hid hw
    clear hrow hw
    by_cases h0 : 0 < k
    · have hw1 : IntKind.i64.wrap ((k : Int) - 1) = ((k - 1 : Nat) : Int) := by rw [IntWalk.i64_in _ (by omega)]; omega
      have HW1 := Lib.hid hw1
      have h0' : (0 : Int) < (k : Int) := by omega
      have ks := fun V (hV : Fxs V p (Fx.manyF [120] k (n - k))) => ffset_any p c (Fx.manyF [120] k (n - k)) [120] (k : Int) (wd (k : Int)) [49] V hc (by rw [Fx.many_len]; omega) (many_sz (by omega)) ⟨by simp, Nat.le_trans (len_int (a := (k : Int)) (by omega) (by omega)) (show 20 ≤ 20000 by decide), by simp⟩ hV
      have e1 := many_step hn h0 hk
      rw [e1] at ks
      have ko := fun V => rqof_any (k : Int) V (by omega) (by omega)
      have HLN : Hid ((Fx.manyF [120] (k - 1) (n - (k - 1))).length = n - (k - 1)) := Lib.hid (Fx.many_len _ _ _)
      have KS : Hid (∀ V, Fxs V p (Fx.manyF [120] k (n - k)) → Calls Tryd.prog 9 #[.slice p (Fx.manyF [120] k (n - k)).length c, .agg #[.string ⟨#[120]⟩, .int .i64 k, .string ⟨(wd (k : Int)).toArray⟩, .string ⟨#[49]⟩]] V (GiveT2 V (Fx.manyF [120] (k - 1) (n - (k - 1))) true)) := Lib.hid ks
      have KO := Lib.hid ko
      clear ks ko e1 hw1
      generalize wd (k : Int) = s at *
      generalize Fx.manyF [120] k (n - k) = R at *
      generalize hT : Fx.manyF [120] (k - 1) (n - (k - 1)) = T at *
      have HTe := Lib.hid hT
      clear hT
      go_wp2_with fail
      refine (KO.out _).mono ?_
      rintro e0 w4 ⟨rfl, b⟩
      have b4 := Below.more HW.out b
      replace HR := Lib.hid (HR.out.below b)
      clear b
      go_wp2_with fail
      refine (KS.out _ HR.out).mono ?_
      rintro e0 w5 ⟨⟨q, cq, rfl, hcq, hq⟩, b⟩
      have HB5 := Lib.hid (Below.more b4 b)
      have HQ := Lib.hid hq
      have HCQ := Lib.hid hcq
      have hw1 := HW1.out
      clear b hq hcq b4
      go_wp2_with fail
      go_roundw
      case rel => exact ⟨k - 1, q, cq, by omega, by first | rfl | rw [hw1], by rw [HTe.out], by rw [HTe.out]; exact HCQ.out, by rw [HTe.out]; exact HQ.out, HB5.out⟩
      case measure => simp [intOf]; omega
    · obtain rfl : k = 0 := by omega
      rw [Nat.sub_zero] at *
      rw [show ((0 : Nat) : Int) = 0 from rfl]
      have hlen := Fx.many_len [120] 0 n
      have hat := fun j (hj : j < n) => many_0 hj
      have hmy : Fx.mayF (Fx.manyF [120] 0 n) = true := Fx.good_iffF.2 (Fx.many_good (by decide) n 0 (by omega))
      have hsz := many_sz (i := 0) (c := n) (by omega)
      generalize Fx.manyF [120] 0 n = R at *
      have km := fun V (hV : Fxs V p R) => ffmay_any p c R V hc (by omega) hsz hV
      rw [hmy] at km
      have KM := Lib.hid km
      have HAT := Lib.hid hat
      clear km hat hmy hsz
      rw [hlen] at *
      clear hlen
      go_wp2_with fail
      generalize wr = wo at HR HW ⊢
      go_loopw [7] (fun i wz => ∃ j : Nat, j ≤ n ∧ i = .int .i64 j ∧ Below wo.heap.size wo wz) (fun i _ => n - (intOf i).toNat)
      case atStart => exact ⟨0, Nat.zero_le _, rfl, Below.refl _ _⟩
      case round =>
        obtain ⟨j, hj, rfl, hw⟩ := hrel
        by_cases hlt : j < n
        · have hx := HAT.out j hlt
          have ko := fun V => rqof_any ((j : Int) + 1) V (by omega) (by omega)
          have hwj : IntKind.i64.wrap ((j : Int) + 1) = (j : Int) + 1 := IntWalk.i64_in _ (by omega)
          have hj2 : (j : Int) < (n : Int) := by omega
          obtain ⟨b, o, rfl, k0, k1, k2, k3⟩ := fx_rule (HR.out.below hw) hx
          generalize wd ((j : Int) + 1) = s at *
          have KO := Lib.hid ko
          have HWz := Lib.hid hw
          have b0 := Below.refl wr.heap.size wr
          have hB := Lib.hid (Nat.le_refl wr.heap.size)
          clear ko hx hw
          go_wp2_with fail
          refine wp_region_noPanic ?_
          refine wp_region_held_drew (S := fun w' => Below wr.heap.size wr w') (by kernel_rfl) (b0.drew) (fun hH0 => ?_)
          refine wpAnyH_take (i := 0) (v := ?_) rfl (by kernel_rfl) (by kernel_rfl) (by kernel_rfl) (fun _ _ _ h => h) (Or.inl ⟨by rfl, ?_⟩) (by assumption) ?_
          rotate_left 1
          · (intro w hSw; (try dsimp only at hSw); go_simp <;> (with_reducible rfl))
          try simp only [Act.put, List.getElem_toArray, List.getElem_cons_succ, List.getElem_cons_zero, List.setIfInBounds_toArray, List.set_cons_zero, List.set_cons_succ]
          refine wpAnyH_take (i := 1) (v := ?_) rfl (by kernel_rfl) (by kernel_rfl) (by kernel_rfl) (fun _ _ _ h => h) (Or.inl ⟨by rfl, ?_⟩) (by assumption) ?_
          rotate_left 1
          · (intro w hSw; (try dsimp only at hSw); go_simp <;> (with_reducible rfl))
          try simp only [Act.put, List.getElem_toArray, List.getElem_cons_succ, List.getElem_cons_zero, List.setIfInBounds_toArray, List.set_cons_zero, List.set_cons_succ]
          refine wpAnyH_take (i := 2) (v := ?_) rfl (by kernel_rfl) (by kernel_rfl) (by kernel_rfl) (fun _ _ _ h => h) (Or.inl ⟨by rfl, ?_⟩) (by assumption) ?_
          rotate_left 1
          · (intro w hSw; (try dsimp only at hSw); go_simp <;> (with_reducible rfl))
          try simp only [Act.put, List.getElem_toArray, List.getElem_cons_succ, List.getElem_cons_zero, List.setIfInBounds_toArray, List.set_cons_zero, List.set_cons_succ]
          refine wpAnyH_take (i := 3) (v := ?_) rfl (by kernel_rfl) (by kernel_rfl) (by kernel_rfl) (fun _ _ _ h => h) (Or.inl ⟨by rfl, ?_⟩) (by assumption) ?_
          rotate_left 1
          · (intro w hSw; (try dsimp only at hSw); go_simp <;> (with_reducible rfl))
          try simp only [Act.put, List.getElem_toArray, List.getElem_cons_succ, List.getElem_cons_zero, List.setIfInBounds_toArray, List.set_cons_zero, List.set_cons_succ]
          refine wpAnyH_take (i := 4) (v := ?_) rfl (by kernel_rfl) (by kernel_rfl) (by kernel_rfl) (fun _ _ _ h => h) (Or.inl ⟨by rfl, ?_⟩) (by assumption) ?_
          rotate_left 1
          · (intro w hSw; (try dsimp only at hSw); go_simp <;> (with_reducible rfl))
          try simp only [Act.put, List.getElem_toArray, List.getElem_cons_succ, List.getElem_cons_zero, List.setIfInBounds_toArray, List.set_cons_zero, List.set_cons_succ]
          refine wpAnyH_take (i := 5) (v := ?_) rfl (by kernel_rfl) (by kernel_rfl) (by kernel_rfl) (fun _ _ _ h => h) (Or.inl ⟨by rfl, ?_⟩) (by assumption) ?_
          rotate_left 1
          · (intro w hSw; (try dsimp only at hSw); go_simp <;> (with_reducible rfl))
          try simp only [Act.put, List.getElem_toArray, List.getElem_cons_succ, List.getElem_cons_zero, List.setIfInBounds_toArray, List.set_cons_zero, List.set_cons_succ]
          refine wpAnyH_take (i := 6) (v := ?_) rfl (by kernel_rfl) (by kernel_rfl) (by kernel_rfl) (fun _ _ _ h => h) (Or.inl ⟨by rfl, ?_⟩) (by assumption) ?_
          rotate_left 1
          · (intro w hSw; (try dsimp only at hSw); go_simp <;> (with_reducible rfl))
          try simp only [Act.put, List.getElem_toArray, List.getElem_cons_succ, List.getElem_cons_zero, List.setIfInBounds_toArray, List.set_cons_zero, List.set_cons_succ]
          refine wpAnyH_take (i := 7) (v := ?_) rfl (by kernel_rfl) (by kernel_rfl) (by kernel_rfl) (fun _ _ _ h => h) (Or.inl ⟨by rfl, ?_⟩) (by assumption) ?_
          rotate_left 1
          · (intro w hSw; (try dsimp only at hSw); go_simp <;> (with_reducible rfl))
          try simp only [Act.put, List.getElem_toArray, List.getElem_cons_succ, List.getElem_cons_zero, List.setIfInBounds_toArray, List.set_cons_zero, List.set_cons_succ]
          refine wpAnyH_take (i := 8) (v := ?_) rfl (by kernel_rfl) (by kernel_rfl) (by kernel_rfl) (fun _ _ _ h => h) (Or.inl ⟨by rfl, ?_⟩) (by assumption) ?_
          rotate_left 1
          · (intro w hSw; (try dsimp only at hSw); go_simp <;> (with_reducible rfl))
          try simp only [Act.put, List.getElem_toArray, List.getElem_cons_succ, List.getElem_cons_zero, List.setIfInBounds_toArray, List.set_cons_zero, List.set_cons_succ]
          refine wpAnyH_take (i := 9) (v := ?_) rfl (by kernel_rfl) (by kernel_rfl) (by kernel_rfl) (fun _ _ _ h => h) (Or.inl ⟨by rfl, ?_⟩) (by assumption) ?_
          rotate_left 1
          · (intro w hSw; (try dsimp only at hSw); go_simp <;> (with_reducible rfl))
          try simp only [Act.put, List.getElem_toArray, List.getElem_cons_succ, List.getElem_cons_zero, List.setIfInBounds_toArray, List.set_cons_zero, List.set_cons_succ]
          refine wpAnyH_take (i := 10) (v := ?_) rfl (by kernel_rfl) (by kernel_rfl) (by kernel_rfl) (fun _ _ _ h => h) (Or.inl ⟨by rfl, ?_⟩) (by assumption) ?_
          rotate_left 1
          · (intro w hSw; (try dsimp only at hSw); go_simp <;> (with_reducible rfl))
          try simp only [Act.put, List.getElem_toArray, List.getElem_cons_succ, List.getElem_cons_zero, List.setIfInBounds_toArray, List.set_cons_zero, List.set_cons_succ]
          refine wpAnyH_take (i := 11) (v := ?_) rfl (by kernel_rfl) (by kernel_rfl) (by kernel_rfl) (fun _ _ _ h => h) (Or.inl ⟨by rfl, ?_⟩) (by assumption) ?_
          rotate_left 1
          · (intro w hSw; (try dsimp only at hSw); go_simp <;> (with_reducible rfl))
          try simp only [Act.put, List.getElem_toArray, List.getElem_cons_succ, List.getElem_cons_zero, List.setIfInBounds_toArray, List.set_cons_zero, List.set_cons_succ]
          refine wpAnyH_take (i := 12) (v := ?_) rfl (by kernel_rfl) (by kernel_rfl) (by kernel_rfl) (fun _ _ _ h => h) (Or.inl ⟨by rfl, ?_⟩) (by assumption) ?_
          rotate_left 1
          · (intro w hSw; (try dsimp only at hSw); go_simp <;> (with_reducible rfl))
          try simp only [Act.put, List.getElem_toArray, List.getElem_cons_succ, List.getElem_cons_zero, List.setIfInBounds_toArray, List.set_cons_zero, List.set_cons_succ]
          refine wpAnyH_take (i := 13) (v := ?_) rfl (by kernel_rfl) (by kernel_rfl) (by kernel_rfl) (fun _ _ _ h => h) (Or.inl ⟨by rfl, ?_⟩) (by assumption) ?_
          rotate_left 1
          · (intro w hSw; (try dsimp only at hSw); go_simp <;> (with_reducible rfl))
          try simp only [Act.put, List.getElem_toArray, List.getElem_cons_succ, List.getElem_cons_zero, List.setIfInBounds_toArray, List.set_cons_zero, List.set_cons_succ]
          refine wpAnyH_take (i := 14) (v := ?_) rfl (by kernel_rfl) (by kernel_rfl) (by kernel_rfl) (fun _ _ _ h => h) (Or.inl ⟨by rfl, ?_⟩) (by assumption) ?_
          rotate_left 1
          · (intro w hSw; (try dsimp only at hSw); go_simp <;> (with_reducible rfl))
          try simp only [Act.put, List.getElem_toArray, List.getElem_cons_succ, List.getElem_cons_zero, List.setIfInBounds_toArray, List.set_cons_zero, List.set_cons_succ]
          refine wpAnyH_take (i := 15) (v := ?_) rfl (by kernel_rfl) (by kernel_rfl) (by kernel_rfl) (fun _ _ _ h => h) (Or.inl ⟨by rfl, ?_⟩) (by assumption) ?_
          rotate_left 1
          · (intro w hSw; (try dsimp only at hSw); go_simp <;> (with_reducible rfl))
          try simp only [Act.put, List.getElem_toArray, List.getElem_cons_succ, List.getElem_cons_zero, List.setIfInBounds_toArray, List.set_cons_zero, List.set_cons_succ]
          refine wpAnyH_ready (rs := [16]) (by kernel_rfl) (by simp) ?_
          refine AllReadyH.cons rfl (fun K hK => ?_) AllReadyH.nil
          go_simp
          refine (held (W := wr) hB.out (KO.out _) (by assumption)).mono ?_
          rintro e x1 ⟨rfl, hb, hw⟩
          (try go_wp2_with fail)
          refine hK.out _ _ hw (fun hH1 => ?_)
          clear hK hH0 hb hw
          try simp only [Act.put, List.getElem_toArray, List.getElem_cons_succ, List.getElem_cons_zero, List.setIfInBounds_toArray, List.set_cons_zero, List.set_cons_succ]
          refine wpAnyH_take (i := 17) (v := ?_) rfl (by kernel_rfl) (by kernel_rfl) (by kernel_rfl) (fun _ _ _ h => h) (Or.inl ⟨by rfl, ?_⟩) (by assumption) ?_
          rotate_left 1
          · (intro w hSw; (try dsimp only at hSw); go_simp <;> (with_reducible rfl))
          try simp only [Act.put, List.getElem_toArray, List.getElem_cons_succ, List.getElem_cons_zero, List.setIfInBounds_toArray, List.set_cons_zero, List.set_cons_succ]
          refine wpAnyH_take (i := 18) (v := ?_) rfl (by kernel_rfl) (by kernel_rfl) (by kernel_rfl) (fun _ _ _ h => h) (Or.inl ⟨by rfl, ?_⟩) (by assumption) ?_
          rotate_left 1
          · (intro w hSw; (try dsimp only at hSw); go_simp <;> (with_reducible rfl))
          try simp only [Act.put, List.getElem_toArray, List.getElem_cons_succ, List.getElem_cons_zero, List.setIfInBounds_toArray, List.set_cons_zero, List.set_cons_succ]
          refine wpAnyH_done (by kernel_rfl) ?_ _
          refine NoPanic.normal ?_
          have b9 := hH1
          clear hH1
          go_wp2_with fail
          go_roundw
          case rel => exact ⟨j + 1, hlt, by go_num, Below.more HWz.out b9⟩
          case measure => simp [intOf]; omega
        · obtain rfl : j = n := by omega
          have HRz := Lib.hid (HR.out.below hw)
          have HWz := Lib.hid (Below.more HW.out hw)
          clear hw
          go_wp2_with fail
          refine (KM.out _ HRz.out).mono ?_
          rintro e0 w8 ⟨rfl, b⟩
          have b8 := Below.more HWz.out b
          clear b
          go_wp2_with fail
          go_ret
          exact ⟨ret_bool (by first | rfl | simp), b8⟩
theorem many12_any (n : Int) (w : World) : Calls Tryd.prog 6 #[.int .i64 n] w (GiveB w true) := by
  by_cases h1 : n < 0
  · exact mn12_1 n h1 w
  by_cases h2 : 60 < n
  · exact mn12_2 n h1 h2 w
  obtain ⟨m, rfl⟩ : ∃ m : Nat, n = (m : Int) := ⟨n.toNat, by omega⟩
  exact mn12_3 m (by omega) w
end Go.Proofs.YtmllklfjngapiaaDoor
