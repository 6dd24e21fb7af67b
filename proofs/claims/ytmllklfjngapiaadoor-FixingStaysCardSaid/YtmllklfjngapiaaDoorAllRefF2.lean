/- The document's words on fixes: the latest one; whether tables are the same, and small. -/
import Derived.Test.YtmllklfjngapiaaDoorAllRefF
import Derived.Test.YtmllklfjngapiaaDoorAllRefB6
namespace Go.Proofs.YtmllklfjngapiaaDoor
open Go.RowKit
set_option linter.unusedSimpArgs false
set_option linter.unusedVariables false
/-- A block for the answer, and a local one behind it. -/
theorem boxRP (w : World) (x y x' y' : Value) (t t' : TypeId) : ∃ W, (w.alloc (.cells #[x, y] t)).alloc (.cells #[x', y'] t') = W ∧ Below w.heap.size w W ∧ w.heap.size + 1 + 1 = W.heap.size ∧
    (∀ v, Below (w.heap.size + 1) W v → v.cell? ⟨w.heap.size, 0, none⟩ = some x) ∧ (∀ v, Below (w.heap.size + 1) W v → v.cell? ⟨w.heap.size, 1, none⟩ = some y) ∧
    (∀ v, Below (w.heap.size + 1) W v → v.frozen? ⟨w.heap.size, 0, none⟩ = false) ∧ (∀ v, Below (w.heap.size + 1) W v → v.frozen? ⟨w.heap.size, 1, none⟩ = false) ∧ Zc (w.heap.size + 1) x' y' W := by
  obtain ⟨V, hV, B, s, r0, r1, r2, r3⟩ := box0z w x y t
  rw [hV, s]
  have hb : Below V.heap.size V (V.alloc (.cells #[x', y'] t')) := Below.step _ (Below.refl _ _)
  exact ⟨_, rfl, Below.more B hb, by simp, fun v h => r0 v (hb.trans h), fun v h => r1 v (hb.trans h), fun v h => r2 v (hb.trans h), fun v h => r3 v (hb.trans h), zc_new _ _ _ _⟩
theorem late_nil (k : Fx.FK) : Fx.lateF [] k = none := rfl
theorem late_st {l : List Fx.Fix} {i : Nat} {a n e u : List UInt8} {d t : Int} {r : Option Key} (hx : l[i]? = some ((a, d), (n, e))) (h : Fx.lateF (l.take i) (u, t) = r) (hs : Fx.satF (u, t) ((a, d), (n, e)) = false) : Fx.lateF (l.take (i + 1)) (u, t) = r := by
  rw [Fx.late_step hx, hs]; exact h
theorem late_sy {l : List Fx.Fix} {i : Nat} {a n e u : List UInt8} {d t : Int} (hx : l[i]? = some ((a, d), (n, e))) (hs : Fx.satF (u, t) ((a, d), (n, e)) = true) : Fx.lateF (l.take (i + 1)) (u, t) = some (n, e) := by
  rw [Fx.late_step hx, hs]; rfl
set_option maxRecDepth 100000 in
set_option maxHeartbeats 4000000 in
theorem fl_no (p : Option Addr) (c : Nat) (l : List Fx.Fix) (u : List UInt8) (t : Int) (w : World) (hc : l.length ≤ c) (hl : l.length ≤ 4611686018427387904)
    (CM : Hid (∀ v, Below w.heap.size w v → Calls Tryd.prog 17 #[.slice p l.length c] v (GiveB v false))) :
    Calls Tryd.prog 14 #[.slice p l.length c, .string ⟨u.toArray⟩, .int .i64 t] w (GiveG w none) := by
  go_enter Tryd.func14, Tryd.ntmps14
  go_wp2_with fail
  obtain ⟨W, hW, BW, sW, r0, r1, r2, r3, hz⟩ := boxRP w (.string ⟨#[]⟩) (.string ⟨#[]⟩) (.string ⟨#[]⟩) (.string ⟨#[]⟩) 24 24
  rw [hW]; clear hW
  have b0 := Below.refl (w.heap.size + 1) W
  go_loopw [9, 10] (fun ok i wr => ok = .bool false ∧ i = .int .i64 0 ∧ Zc (w.heap.size + 1) (.string ⟨#[]⟩) (.string ⟨#[]⟩) wr ∧ Below (w.heap.size + 1) W wr) (fun _ _ _ => 0)
  case atStart => exact ⟨rfl, rfl, hz, b0⟩
  case round =>
    clear hz b0
    obtain ⟨rfl, rfl, hz, hw⟩ := hrel
    by_cases hlt : 0 < l.length
    · go_wp2_with fail
      refine (CM.out _ (BW.trans (hw.mono (Nat.le_succ _)))).mono ?_
      rintro e' w1 ⟨rfl, b⟩
      replace hz := hz.below b
      replace hw := hw.trans (b.mono (Nat.le_trans (by rw [← sW]; omega) hw.size))
      clear b
      have z0 := hz.c0; have z1 := hz.c1; have z2 := hz.f0; have z3 := hz.f1
      go_wp2_with fail
      refine bodyPost_ret (v := .tuple #[.agg #[.string ⟨#[]⟩, .string ⟨#[]⟩], .bool false]) (by simp [results, Tryd.results14, go_sem, *]) rfl ⟨rfl, ?_⟩
      exact put2 (BW.trans (hw.mono (Nat.le_succ _))) (Nat.le_refl _) _ _
    · have h0 : l.length = 0 := by omega
      have z0 := hz.c0; have z1 := hz.c1; have z2 := hz.f0; have z3 := hz.f1
      go_wp2_with fail
      refine bodyPost_ret (v := .tuple #[.agg #[.string ⟨#[]⟩, .string ⟨#[]⟩], .bool false]) (by simp [results, Tryd.results14, go_sem, *]) rfl ⟨rfl, ?_⟩
      exact put2 (BW.trans (hw.mono (Nat.le_succ _))) (Nat.le_refl _) _ _
set_option maxRecDepth 100000 in
set_option maxHeartbeats 4000000 in
theorem fl_yes (p : Option Addr) (c : Nat) (l : List Fx.Fix) (u : List UInt8) (t : Int) (w : World) (hc : l.length ≤ c) (hl : l.length ≤ 4611686018427387904) (h : Fxs w p l) (hm : Fx.mayF l = true)
    (CM : Hid (∀ v, Below w.heap.size w v → Calls Tryd.prog 17 #[.slice p l.length c] v (GiveB v true))) :
    Calls Tryd.prog 14 #[.slice p l.length c, .string ⟨u.toArray⟩, .int .i64 t] w (GiveG w (Fx.lastF l (u, t))) := by
  have HS := Lib.hid h; clear h
  go_enter Tryd.func14, Tryd.ntmps14
  go_wp2_with fail
  obtain ⟨W, hW, BW, sW, r0, r1, r2, r3, hz⟩ := boxRP w (.string ⟨#[]⟩) (.string ⟨#[]⟩) (.string ⟨#[]⟩) (.string ⟨#[]⟩) 24 24
  rw [hW]; clear hW
  have b0 := Below.refl (w.heap.size + 1) W
  go_loopw [9, 10] (fun ok i wr => ∃ (k : Nat) (r : Option Key), Hid (Fx.lateF (l.take k) (u, t) = r) ∧ k ≤ l.length ∧ i = .int .i64 k ∧ ok = .bool r.isSome ∧ Zc (w.heap.size + 1) (.string ⟨(optR r).1.toArray⟩) (.string ⟨(optR r).2.toArray⟩) wr ∧ Below (w.heap.size + 1) W wr) (fun _ i _ => l.length - (intOf i).toNat)
  case atStart => exact ⟨0, none, late_nil _, Nat.zero_le _, rfl, rfl, hz, b0⟩
  case round =>
    clear hz b0
    obtain ⟨k, r, HR, hk, rfl, rfl, hz, hw⟩ := hrel
    by_cases hlt : k < l.length
    · obtain ⟨⟨⟨a, d⟩, ⟨n, e⟩⟩, hx⟩ : ∃ x, l[k]? = some x := ⟨_, List.getElem?_eq_getElem hlt⟩
      obtain ⟨b, o, rfl, k0, k1, k2, k3⟩ := fx_rule HS.out hx
      replace k0 := fun v (h : Below (w.heap.size + 1) W v) => k0 v (BW.trans (h.mono (Nat.le_succ _)))
      replace k1 := fun v (h : Below (w.heap.size + 1) W v) => k1 v (BW.trans (h.mono (Nat.le_succ _)))
      replace k2 := fun v (h : Below (w.heap.size + 1) W v) => k2 v (BW.trans (h.mono (Nat.le_succ _)))
      replace k3 := fun v (h : Below (w.heap.size + 1) W v) => k3 v (BW.trans (h.mono (Nat.le_succ _)))
      have HX := Lib.hid hx
      clear hx
      by_cases e0 : a = u
      · have q0 : (a == u) = true := by rw [beq_iff_eq]; exact e0
        by_cases e1 : d ≤ t
        · have HO := Lib.hid (late_sy HX.out (Fx.sat_iff.2 ⟨e0, e1⟩))
          clear e0
          go_wp2_with fail
          refine (CM.out _ (BW.trans (hw.mono (Nat.le_succ _)))).mono ?_
          rintro e' w1 ⟨rfl, b⟩
          replace hz := hz.below b
          replace hw := hw.trans (b.mono (Nat.le_trans (by rw [← sW]; omega) hw.size))
          clear b
          have z0 := hz.c0; have z1 := hz.c1; have z2 := hz.f0; have z3 := hz.f1
          go_wp2_with fail
          go_roundw
          case rel => exact ⟨k + 1, some (n, e), HO, hlt, by go_num, by first | rfl | simp, zc_put hz, put2 hw (Nat.le_refl _) _ _⟩
          case measure => simp [intOf]; omega
        · have HO := Lib.hid (late_st HX.out HR.out (by cases c : Fx.satF (u, t) ((a, d), (n, e)) with | false => rfl | true => exact absurd (Fx.sat_iff.1 c).2 e1))
          clear e0
          go_wp2_with fail
          refine (CM.out _ (BW.trans (hw.mono (Nat.le_succ _)))).mono ?_
          rintro e' w1 ⟨rfl, b⟩
          replace hz := hz.below b
          replace hw := hw.trans (b.mono (Nat.le_trans (by rw [← sW]; omega) hw.size))
          clear b
          have z0 := hz.c0; have z1 := hz.c1; have z2 := hz.f0; have z3 := hz.f1
          go_wp2_with fail
          go_roundw
          case rel => exact ⟨k + 1, r, HO, hlt, by go_num, by first | rfl | simp, hz, hw⟩
          case measure => simp [intOf]; omega
      · have q0 : (a == u) = false := beq_false_of_ne e0
        have HO := Lib.hid (late_st HX.out HR.out (by cases c : Fx.satF (u, t) ((a, d), (n, e)) with | false => rfl | true => exact absurd (Fx.sat_iff.1 c).1 e0))
        clear e0
        go_wp2_with fail
        refine (CM.out _ (BW.trans (hw.mono (Nat.le_succ _)))).mono ?_
        rintro e' w1 ⟨rfl, b⟩
        replace hz := hz.below b
        replace hw := hw.trans (b.mono (Nat.le_trans (by rw [← sW]; omega) hw.size))
        clear b
        have z0 := hz.c0; have z1 := hz.c1; have z2 := hz.f0; have z3 := hz.f1
        go_wp2_with fail
        go_roundw
        case rel => exact ⟨k + 1, r, HO, hlt, by go_num, by first | rfl | simp, hz, hw⟩
        case measure => simp [intOf]; omega
    · obtain rfl : k = l.length := by omega
      have HF : Hid (Fx.lastF l (u, t) = r) := Lib.hid (by have k := HR.out; rw [List.take_length] at k; unfold Fx.lastF; rw [hm, if_pos rfl]; exact k)
      have z0 := hz.c0; have z1 := hz.c1; have z2 := hz.f0; have z3 := hz.f1
      go_wp2_with fail
      refine bodyPost_ret (v := .tuple #[.agg #[.string ⟨(optR r).1.toArray⟩, .string ⟨(optR r).2.toArray⟩], .bool r.isSome]) (by simp [results, Tryd.results14, go_sem, *]) rfl ⟨by rw [HF.out], ?_⟩
      exact put2 (BW.trans (hw.mono (Nat.le_succ _))) (Nat.le_refl _) _ _
theorem rflast_any (p : Option Addr) (c : Nat) (l : List Fx.Fix) (u : List UInt8) (t : Int) (w : World) (hc : l.length ≤ c) (hl : l.length ≤ 4611686018427387904) (hz : ∀ x ∈ l, SzX x) (h : Fxs w p l) :
    Calls Tryd.prog 14 #[.slice p l.length c, .string ⟨u.toArray⟩, .int .i64 t] w (GiveG w (Fx.lastF l (u, t))) := by
  have cm := fun v (hv : Below w.heap.size w v) => rfmay_any p c l v hc hl hz (h.below hv)
  cases hm : Fx.mayF l with
  | false =>
    have e : Fx.lastF l (u, t) = none := by unfold Fx.lastF; rw [hm]; rfl
    rw [e]; rw [hm] at cm; exact fl_no p c l u t w hc hl (Lib.hid cm)
  | true => rw [hm] at cm; exact fl_yes p c l u t w hc hl h hm (Lib.hid cm)
set_option maxRecDepth 100000 in
set_option maxHeartbeats 4000000 in
theorem rfsame_any (p q : Option Addr) (c c' : Nat) (l m : List Fx.Fix) (w : World) (hl : l.length ≤ 4611686018427387904) (hl' : m.length ≤ 4611686018427387904) (h : Fxs w p l) (h' : Fxs w q m) :
    Calls Tryd.prog 15 #[.slice p l.length c, .slice q m.length c'] w (GiveB w (l == m)) := by
  have HS := Lib.hid h; have HS' := Lib.hid h'; clear h h'
  by_cases hne : l.length = m.length
  · go_enter Tryd.func15, Tryd.ntmps15
    go_wp2
    go_loopw [5] (fun i wr => ∃ k : Nat, k ≤ l.length ∧ i = .int .i64 k ∧ Hid (∀ (j : Nat) (x : Fx.Fix), j < k → l[j]? = some x → m[j]? = some x) ∧ Below w.heap.size w wr) (fun i _ => l.length - (intOf i).toNat)
    case atStart => exact ⟨0, Nat.zero_le _, rfl, fun j x h => absurd h (Nat.not_lt_zero j), Below.refl _ _⟩
    case round =>
      obtain ⟨k, hk, rfl, HJ, hw⟩ := hrel
      by_cases hlt : k < l.length
      · obtain ⟨⟨⟨a, d⟩, ⟨n, e⟩⟩, hx⟩ : ∃ x, l[k]? = some x := ⟨_, List.getElem?_eq_getElem hlt⟩
        obtain ⟨⟨⟨a', d'⟩, ⟨n', e'⟩⟩, hy⟩ : ∃ x, m[k]? = some x := ⟨_, List.getElem?_eq_getElem (hne ▸ hlt)⟩
        obtain ⟨b, o, rfl, k0, k1, k2, k3⟩ := fx_rule (HS.out.below hw) hx
        obtain ⟨b', o', rfl, j0, j1, j2, j3⟩ := fx_rule (HS'.out.below hw) hy
        have HW := Lib.hid hw
        have hlt' : (k : Int) < (m.length : Int) := by omega
        have b0 := Below.refl wr.heap.size wr
        have HX := Lib.hid hx; have HY := Lib.hid hy
        clear hx hy hw
        have hB := Lib.hid (Nat.le_refl wr.heap.size)
        by_cases y0 : a = a'
        · by_cases y1 : d = d'
          · by_cases y2 : n = n'
            · by_cases y3 : e = e'
              · have HO : Hid (m[k]? = some ((a, d), (n, e))) := Lib.hid (by subst y0 y1 y2 y3; exact HY.out)
                have q0 : (a == a') = true := by rw [beq_iff_eq]; assumption
                have q1 : (d == d') = true := by rw [beq_iff_eq]; assumption
                have q2 : (n == n') = true := by rw [beq_iff_eq]; assumption
                have q3 : (e == e') = true := by rw [beq_iff_eq]; assumption
                clear y0 y1 y2 y3
                go_wp2_with fail
                refine wp_region_noPanic ?_
                refine wp_region_held_drew (S := fun w' => Below wr.heap.size wr w') (by kernel_rfl) (b0.drew) (fun hH0 => ?_)
                refine wpAnyH_take (i := 0) (v := ?_) rfl (by kernel_rfl) (by kernel_rfl) (by kernel_rfl) (fun _ _ _ h => h) (Or.inl ⟨by rfl, ?_⟩) (by assumption) ?_
                rotate_left 1
                · (intro w hSw; (try dsimp only at hSw); go_simp <;> (with_reducible rfl))
                try simp only [Act.put, List.getElem_toArray, List.getElem_cons_succ, List.getElem_cons_zero, List.setIfInBounds_toArray, List.set_cons_zero, List.set_cons_succ]
                refine wpAnyH_take (i := 1) (v := ?_) rfl (by kernel_rfl) (by kernel_rfl) (by kernel_rfl) (fun _ _ _ h => h) (Or.inl ⟨by rfl, ?_⟩) (by assumption) ?_
                rotate_left 1
                · (intro w hSw; (try dsimp only at hSw); go_simp <;> (with_reducible rfl))
                try simp only [Act.put, List.getElem_toArray, List.getElem_cons_succ, List.getElem_cons_zero, List.setIfInBounds_toArray, List.set_cons_zero, List.set_cons_succ]
                refine wpAnyH_take (i := 2) (v := ?_) rfl (by kernel_rfl) (by kernel_rfl) (by kernel_rfl) (fun _ _ _ h => h) (Or.inl ⟨by rfl, ?_⟩) (by assumption) ?_
                rotate_left 1
                · (intro w hSw; (try dsimp only at hSw); go_simp <;> (with_reducible rfl))
                try simp only [Act.put, List.getElem_toArray, List.getElem_cons_succ, List.getElem_cons_zero, List.setIfInBounds_toArray, List.set_cons_zero, List.set_cons_succ]
                refine wpAnyH_take (i := 3) (v := ?_) rfl (by kernel_rfl) (by kernel_rfl) (by kernel_rfl) (fun _ _ _ h => h) (Or.inl ⟨by rfl, ?_⟩) (by assumption) ?_
                rotate_left 1
                · (intro w hSw; (try dsimp only at hSw); go_simp <;> (with_reducible rfl))
                try simp only [Act.put, List.getElem_toArray, List.getElem_cons_succ, List.getElem_cons_zero, List.setIfInBounds_toArray, List.set_cons_zero, List.set_cons_succ]
                refine wpAnyH_take (i := 4) (v := ?_) rfl (by kernel_rfl) (by kernel_rfl) (by kernel_rfl) (fun _ _ _ h => h) (Or.inl ⟨by rfl, ?_⟩) (by assumption) ?_
                rotate_left 1
                · (intro w hSw; (try dsimp only at hSw); go_simp <;> (with_reducible rfl))
                try simp only [Act.put, List.getElem_toArray, List.getElem_cons_succ, List.getElem_cons_zero, List.setIfInBounds_toArray, List.set_cons_zero, List.set_cons_succ]
                refine wpAnyH_take (i := 5) (v := ?_) rfl (by kernel_rfl) (by kernel_rfl) (by kernel_rfl) (fun _ _ _ h => h) (Or.inl ⟨by rfl, ?_⟩) (by assumption) ?_
                rotate_left 1
                · (intro w hSw; (try dsimp only at hSw); go_simp <;> (with_reducible rfl))
                try simp only [Act.put, List.getElem_toArray, List.getElem_cons_succ, List.getElem_cons_zero, List.setIfInBounds_toArray, List.set_cons_zero, List.set_cons_succ]
                refine wpAnyH_take (i := 6) (v := ?_) rfl (by kernel_rfl) (by kernel_rfl) (by kernel_rfl) (fun _ _ _ h => h) (Or.inl ⟨by rfl, ?_⟩) (by assumption) ?_
                rotate_left 1
                · (intro w hSw; (try dsimp only at hSw); go_simp <;> (with_reducible rfl))
                try simp only [Act.put, List.getElem_toArray, List.getElem_cons_succ, List.getElem_cons_zero, List.setIfInBounds_toArray, List.set_cons_zero, List.set_cons_succ]
                refine wpAnyH_take (i := 7) (v := ?_) rfl (by kernel_rfl) (by kernel_rfl) (by kernel_rfl) (fun _ _ _ h => h) (Or.inl ⟨by rfl, ?_⟩) (by assumption) ?_
                rotate_left 1
                · (intro w hSw; (try dsimp only at hSw); go_simp <;> (with_reducible rfl))
                try simp only [Act.put, List.getElem_toArray, List.getElem_cons_succ, List.getElem_cons_zero, List.setIfInBounds_toArray, List.set_cons_zero, List.set_cons_succ]
                refine wpAnyH_take (i := 8) (v := ?_) rfl (by kernel_rfl) (by kernel_rfl) (by kernel_rfl) (fun _ _ _ h => h) (Or.inl ⟨by rfl, ?_⟩) (by assumption) ?_
                rotate_left 1
                · (intro w hSw; (try dsimp only at hSw); go_simp <;> (with_reducible rfl))
                try simp only [Act.put, List.getElem_toArray, List.getElem_cons_succ, List.getElem_cons_zero, List.setIfInBounds_toArray, List.set_cons_zero, List.set_cons_succ]
                refine wpAnyH_done (by kernel_rfl) ?_ _
                refine NoPanic.normal ?_
                have b9 := hH0
                clear hH0
                go_wp2_with fail
                go_roundw
                case rel => exact ⟨k + 1, hlt, by go_num, moreK (P := fun j x => m[j]? = some x) HJ.out HX.out HO.out, Below.more HW.out b9⟩
                case measure => simp [intOf]; omega
              · have HO : Hid ((l == m) = false) := Lib.hid (sameF_stop HX.out HY.out (fun e => by cases e; exact y3 rfl))
                have q0 : (a == a') = true := by rw [beq_iff_eq]; assumption
                have q1 : (d == d') = true := by rw [beq_iff_eq]; assumption
                have q2 : (n == n') = true := by rw [beq_iff_eq]; assumption
                have q3 : (e == e') = false := by rw [beq_eq_false_iff_ne]; assumption
                clear y0
                clear y1
                clear y2
                clear y3
                go_wp2_with fail
                refine wp_region_noPanic ?_
                refine wp_region_held_drew (S := fun w' => Below wr.heap.size wr w') (by kernel_rfl) (b0.drew) (fun hH0 => ?_)
                refine wpAnyH_take (i := 0) (v := ?_) rfl (by kernel_rfl) (by kernel_rfl) (by kernel_rfl) (fun _ _ _ h => h) (Or.inl ⟨by rfl, ?_⟩) (by assumption) ?_
                rotate_left 1
                · (intro w hSw; (try dsimp only at hSw); go_simp <;> (with_reducible rfl))
                try simp only [Act.put, List.getElem_toArray, List.getElem_cons_succ, List.getElem_cons_zero, List.setIfInBounds_toArray, List.set_cons_zero, List.set_cons_succ]
                refine wpAnyH_take (i := 1) (v := ?_) rfl (by kernel_rfl) (by kernel_rfl) (by kernel_rfl) (fun _ _ _ h => h) (Or.inl ⟨by rfl, ?_⟩) (by assumption) ?_
                rotate_left 1
                · (intro w hSw; (try dsimp only at hSw); go_simp <;> (with_reducible rfl))
                try simp only [Act.put, List.getElem_toArray, List.getElem_cons_succ, List.getElem_cons_zero, List.setIfInBounds_toArray, List.set_cons_zero, List.set_cons_succ]
                refine wpAnyH_take (i := 2) (v := ?_) rfl (by kernel_rfl) (by kernel_rfl) (by kernel_rfl) (fun _ _ _ h => h) (Or.inl ⟨by rfl, ?_⟩) (by assumption) ?_
                rotate_left 1
                · (intro w hSw; (try dsimp only at hSw); go_simp <;> (with_reducible rfl))
                try simp only [Act.put, List.getElem_toArray, List.getElem_cons_succ, List.getElem_cons_zero, List.setIfInBounds_toArray, List.set_cons_zero, List.set_cons_succ]
                refine wpAnyH_take (i := 3) (v := ?_) rfl (by kernel_rfl) (by kernel_rfl) (by kernel_rfl) (fun _ _ _ h => h) (Or.inl ⟨by rfl, ?_⟩) (by assumption) ?_
                rotate_left 1
                · (intro w hSw; (try dsimp only at hSw); go_simp <;> (with_reducible rfl))
                try simp only [Act.put, List.getElem_toArray, List.getElem_cons_succ, List.getElem_cons_zero, List.setIfInBounds_toArray, List.set_cons_zero, List.set_cons_succ]
                refine wpAnyH_take (i := 4) (v := ?_) rfl (by kernel_rfl) (by kernel_rfl) (by kernel_rfl) (fun _ _ _ h => h) (Or.inl ⟨by rfl, ?_⟩) (by assumption) ?_
                rotate_left 1
                · (intro w hSw; (try dsimp only at hSw); go_simp <;> (with_reducible rfl))
                try simp only [Act.put, List.getElem_toArray, List.getElem_cons_succ, List.getElem_cons_zero, List.setIfInBounds_toArray, List.set_cons_zero, List.set_cons_succ]
                refine wpAnyH_take (i := 5) (v := ?_) rfl (by kernel_rfl) (by kernel_rfl) (by kernel_rfl) (fun _ _ _ h => h) (Or.inl ⟨by rfl, ?_⟩) (by assumption) ?_
                rotate_left 1
                · (intro w hSw; (try dsimp only at hSw); go_simp <;> (with_reducible rfl))
                try simp only [Act.put, List.getElem_toArray, List.getElem_cons_succ, List.getElem_cons_zero, List.setIfInBounds_toArray, List.set_cons_zero, List.set_cons_succ]
                refine wpAnyH_take (i := 6) (v := ?_) rfl (by kernel_rfl) (by kernel_rfl) (by kernel_rfl) (fun _ _ _ h => h) (Or.inl ⟨by rfl, ?_⟩) (by assumption) ?_
                rotate_left 1
                · (intro w hSw; (try dsimp only at hSw); go_simp <;> (with_reducible rfl))
                try simp only [Act.put, List.getElem_toArray, List.getElem_cons_succ, List.getElem_cons_zero, List.setIfInBounds_toArray, List.set_cons_zero, List.set_cons_succ]
                refine wpAnyH_take (i := 7) (v := ?_) rfl (by kernel_rfl) (by kernel_rfl) (by kernel_rfl) (fun _ _ _ h => h) (Or.inl ⟨by rfl, ?_⟩) (by assumption) ?_
                rotate_left 1
                · (intro w hSw; (try dsimp only at hSw); go_simp <;> (with_reducible rfl))
                try simp only [Act.put, List.getElem_toArray, List.getElem_cons_succ, List.getElem_cons_zero, List.setIfInBounds_toArray, List.set_cons_zero, List.set_cons_succ]
                refine wpAnyH_take (i := 8) (v := ?_) rfl (by kernel_rfl) (by kernel_rfl) (by kernel_rfl) (fun _ _ _ h => h) (Or.inl ⟨by rfl, ?_⟩) (by assumption) ?_
                rotate_left 1
                · (intro w hSw; (try dsimp only at hSw); go_simp <;> (with_reducible rfl))
                try simp only [Act.put, List.getElem_toArray, List.getElem_cons_succ, List.getElem_cons_zero, List.setIfInBounds_toArray, List.set_cons_zero, List.set_cons_succ]
                refine wpAnyH_done (by kernel_rfl) ?_ _
                refine NoPanic.normal ?_
                have b9 := hH0
                clear hH0
                go_wp2_with fail
                go_ret
                exact ⟨ret_bool (by rw [HO.out]), Below.more HW.out b9⟩
            · have HO : Hid ((l == m) = false) := Lib.hid (sameF_stop HX.out HY.out (fun e => by cases e; exact y2 rfl))
              have q0 : (a == a') = true := by rw [beq_iff_eq]; assumption
              have q1 : (d == d') = true := by rw [beq_iff_eq]; assumption
              have q2 : (n == n') = false := by rw [beq_eq_false_iff_ne]; assumption
              clear y0
              clear y1
              clear y2
              go_wp2_with fail
              refine wp_region_noPanic ?_
              refine wp_region_held_drew (S := fun w' => Below wr.heap.size wr w') (by kernel_rfl) (b0.drew) (fun hH0 => ?_)
              refine wpAnyH_take (i := 0) (v := ?_) rfl (by kernel_rfl) (by kernel_rfl) (by kernel_rfl) (fun _ _ _ h => h) (Or.inl ⟨by rfl, ?_⟩) (by assumption) ?_
              rotate_left 1
              · (intro w hSw; (try dsimp only at hSw); go_simp <;> (with_reducible rfl))
              try simp only [Act.put, List.getElem_toArray, List.getElem_cons_succ, List.getElem_cons_zero, List.setIfInBounds_toArray, List.set_cons_zero, List.set_cons_succ]
              refine wpAnyH_take (i := 1) (v := ?_) rfl (by kernel_rfl) (by kernel_rfl) (by kernel_rfl) (fun _ _ _ h => h) (Or.inl ⟨by rfl, ?_⟩) (by assumption) ?_
              rotate_left 1
              · (intro w hSw; (try dsimp only at hSw); go_simp <;> (with_reducible rfl))
              try simp only [Act.put, List.getElem_toArray, List.getElem_cons_succ, List.getElem_cons_zero, List.setIfInBounds_toArray, List.set_cons_zero, List.set_cons_succ]
              refine wpAnyH_take (i := 2) (v := ?_) rfl (by kernel_rfl) (by kernel_rfl) (by kernel_rfl) (fun _ _ _ h => h) (Or.inl ⟨by rfl, ?_⟩) (by assumption) ?_
              rotate_left 1
              · (intro w hSw; (try dsimp only at hSw); go_simp <;> (with_reducible rfl))
              try simp only [Act.put, List.getElem_toArray, List.getElem_cons_succ, List.getElem_cons_zero, List.setIfInBounds_toArray, List.set_cons_zero, List.set_cons_succ]
              refine wpAnyH_take (i := 3) (v := ?_) rfl (by kernel_rfl) (by kernel_rfl) (by kernel_rfl) (fun _ _ _ h => h) (Or.inl ⟨by rfl, ?_⟩) (by assumption) ?_
              rotate_left 1
              · (intro w hSw; (try dsimp only at hSw); go_simp <;> (with_reducible rfl))
              try simp only [Act.put, List.getElem_toArray, List.getElem_cons_succ, List.getElem_cons_zero, List.setIfInBounds_toArray, List.set_cons_zero, List.set_cons_succ]
              refine wpAnyH_take (i := 4) (v := ?_) rfl (by kernel_rfl) (by kernel_rfl) (by kernel_rfl) (fun _ _ _ h => h) (Or.inl ⟨by rfl, ?_⟩) (by assumption) ?_
              rotate_left 1
              · (intro w hSw; (try dsimp only at hSw); go_simp <;> (with_reducible rfl))
              try simp only [Act.put, List.getElem_toArray, List.getElem_cons_succ, List.getElem_cons_zero, List.setIfInBounds_toArray, List.set_cons_zero, List.set_cons_succ]
              refine wpAnyH_take (i := 5) (v := ?_) rfl (by kernel_rfl) (by kernel_rfl) (by kernel_rfl) (fun _ _ _ h => h) (Or.inl ⟨by rfl, ?_⟩) (by assumption) ?_
              rotate_left 1
              · (intro w hSw; (try dsimp only at hSw); go_simp <;> (with_reducible rfl))
              try simp only [Act.put, List.getElem_toArray, List.getElem_cons_succ, List.getElem_cons_zero, List.setIfInBounds_toArray, List.set_cons_zero, List.set_cons_succ]
              refine wpAnyH_take (i := 6) (v := ?_) rfl (by kernel_rfl) (by kernel_rfl) (by kernel_rfl) (fun _ _ _ h => h) (Or.inl ⟨by rfl, ?_⟩) (by assumption) ?_
              rotate_left 1
              · (intro w hSw; (try dsimp only at hSw); go_simp <;> (with_reducible rfl))
              try simp only [Act.put, List.getElem_toArray, List.getElem_cons_succ, List.getElem_cons_zero, List.setIfInBounds_toArray, List.set_cons_zero, List.set_cons_succ]
              refine wpAnyH_take (i := 7) (v := ?_) rfl (by kernel_rfl) (by kernel_rfl) (by kernel_rfl) (fun _ _ _ h => h) (Or.inl ⟨by rfl, ?_⟩) (by assumption) ?_
              rotate_left 1
              · (intro w hSw; (try dsimp only at hSw); go_simp <;> (with_reducible rfl))
              try simp only [Act.put, List.getElem_toArray, List.getElem_cons_succ, List.getElem_cons_zero, List.setIfInBounds_toArray, List.set_cons_zero, List.set_cons_succ]
              refine wpAnyH_take (i := 8) (v := ?_) rfl (by kernel_rfl) (by kernel_rfl) (by kernel_rfl) (fun _ _ _ h => h) (Or.inl ⟨by rfl, ?_⟩) (by assumption) ?_
              rotate_left 1
              · (intro w hSw; (try dsimp only at hSw); go_simp <;> (with_reducible rfl))
              try simp only [Act.put, List.getElem_toArray, List.getElem_cons_succ, List.getElem_cons_zero, List.setIfInBounds_toArray, List.set_cons_zero, List.set_cons_succ]
              refine wpAnyH_done (by kernel_rfl) ?_ _
              refine NoPanic.normal ?_
              have b9 := hH0
              clear hH0
              go_wp2_with fail
              go_ret
              exact ⟨ret_bool (by rw [HO.out]), Below.more HW.out b9⟩
          · have HO : Hid ((l == m) = false) := Lib.hid (sameF_stop HX.out HY.out (fun e => by cases e; exact y1 rfl))
            have q0 : (a == a') = true := by rw [beq_iff_eq]; assumption
            have q1 : (d == d') = false := by rw [beq_eq_false_iff_ne]; assumption
            clear y0
            clear y1
            go_wp2_with fail
            refine wp_region_noPanic ?_
            refine wp_region_held_drew (S := fun w' => Below wr.heap.size wr w') (by kernel_rfl) (b0.drew) (fun hH0 => ?_)
            refine wpAnyH_take (i := 0) (v := ?_) rfl (by kernel_rfl) (by kernel_rfl) (by kernel_rfl) (fun _ _ _ h => h) (Or.inl ⟨by rfl, ?_⟩) (by assumption) ?_
            rotate_left 1
            · (intro w hSw; (try dsimp only at hSw); go_simp <;> (with_reducible rfl))
            try simp only [Act.put, List.getElem_toArray, List.getElem_cons_succ, List.getElem_cons_zero, List.setIfInBounds_toArray, List.set_cons_zero, List.set_cons_succ]
            refine wpAnyH_take (i := 1) (v := ?_) rfl (by kernel_rfl) (by kernel_rfl) (by kernel_rfl) (fun _ _ _ h => h) (Or.inl ⟨by rfl, ?_⟩) (by assumption) ?_
            rotate_left 1
            · (intro w hSw; (try dsimp only at hSw); go_simp <;> (with_reducible rfl))
            try simp only [Act.put, List.getElem_toArray, List.getElem_cons_succ, List.getElem_cons_zero, List.setIfInBounds_toArray, List.set_cons_zero, List.set_cons_succ]
            refine wpAnyH_take (i := 2) (v := ?_) rfl (by kernel_rfl) (by kernel_rfl) (by kernel_rfl) (fun _ _ _ h => h) (Or.inl ⟨by rfl, ?_⟩) (by assumption) ?_
            rotate_left 1
            · (intro w hSw; (try dsimp only at hSw); go_simp <;> (with_reducible rfl))
            try simp only [Act.put, List.getElem_toArray, List.getElem_cons_succ, List.getElem_cons_zero, List.setIfInBounds_toArray, List.set_cons_zero, List.set_cons_succ]
            refine wpAnyH_take (i := 3) (v := ?_) rfl (by kernel_rfl) (by kernel_rfl) (by kernel_rfl) (fun _ _ _ h => h) (Or.inl ⟨by rfl, ?_⟩) (by assumption) ?_
            rotate_left 1
            · (intro w hSw; (try dsimp only at hSw); go_simp <;> (with_reducible rfl))
            try simp only [Act.put, List.getElem_toArray, List.getElem_cons_succ, List.getElem_cons_zero, List.setIfInBounds_toArray, List.set_cons_zero, List.set_cons_succ]
            refine wpAnyH_take (i := 4) (v := ?_) rfl (by kernel_rfl) (by kernel_rfl) (by kernel_rfl) (fun _ _ _ h => h) (Or.inl ⟨by rfl, ?_⟩) (by assumption) ?_
            rotate_left 1
            · (intro w hSw; (try dsimp only at hSw); go_simp <;> (with_reducible rfl))
            try simp only [Act.put, List.getElem_toArray, List.getElem_cons_succ, List.getElem_cons_zero, List.setIfInBounds_toArray, List.set_cons_zero, List.set_cons_succ]
            refine wpAnyH_take (i := 5) (v := ?_) rfl (by kernel_rfl) (by kernel_rfl) (by kernel_rfl) (fun _ _ _ h => h) (Or.inl ⟨by rfl, ?_⟩) (by assumption) ?_
            rotate_left 1
            · (intro w hSw; (try dsimp only at hSw); go_simp <;> (with_reducible rfl))
            try simp only [Act.put, List.getElem_toArray, List.getElem_cons_succ, List.getElem_cons_zero, List.setIfInBounds_toArray, List.set_cons_zero, List.set_cons_succ]
            refine wpAnyH_take (i := 6) (v := ?_) rfl (by kernel_rfl) (by kernel_rfl) (by kernel_rfl) (fun _ _ _ h => h) (Or.inl ⟨by rfl, ?_⟩) (by assumption) ?_
            rotate_left 1
            · (intro w hSw; (try dsimp only at hSw); go_simp <;> (with_reducible rfl))
            try simp only [Act.put, List.getElem_toArray, List.getElem_cons_succ, List.getElem_cons_zero, List.setIfInBounds_toArray, List.set_cons_zero, List.set_cons_succ]
            refine wpAnyH_take (i := 7) (v := ?_) rfl (by kernel_rfl) (by kernel_rfl) (by kernel_rfl) (fun _ _ _ h => h) (Or.inl ⟨by rfl, ?_⟩) (by assumption) ?_
            rotate_left 1
            · (intro w hSw; (try dsimp only at hSw); go_simp <;> (with_reducible rfl))
            try simp only [Act.put, List.getElem_toArray, List.getElem_cons_succ, List.getElem_cons_zero, List.setIfInBounds_toArray, List.set_cons_zero, List.set_cons_succ]
            refine wpAnyH_take (i := 8) (v := ?_) rfl (by kernel_rfl) (by kernel_rfl) (by kernel_rfl) (fun _ _ _ h => h) (Or.inl ⟨by rfl, ?_⟩) (by assumption) ?_
            rotate_left 1
            · (intro w hSw; (try dsimp only at hSw); go_simp <;> (with_reducible rfl))
            try simp only [Act.put, List.getElem_toArray, List.getElem_cons_succ, List.getElem_cons_zero, List.setIfInBounds_toArray, List.set_cons_zero, List.set_cons_succ]
            refine wpAnyH_done (by kernel_rfl) ?_ _
            refine NoPanic.normal ?_
            have b9 := hH0
            clear hH0
            go_wp2_with fail
            go_ret
            exact ⟨ret_bool (by rw [HO.out]), Below.more HW.out b9⟩
        · have HO : Hid ((l == m) = false) := Lib.hid (sameF_stop HX.out HY.out (fun e => by cases e; exact y0 rfl))
          have q0 : (a == a') = false := by rw [beq_eq_false_iff_ne]; assumption
          clear y0
          go_wp2_with fail
          refine wp_region_noPanic ?_
          refine wp_region_held_drew (S := fun w' => Below wr.heap.size wr w') (by kernel_rfl) (b0.drew) (fun hH0 => ?_)
          refine wpAnyH_take (i := 0) (v := ?_) rfl (by kernel_rfl) (by kernel_rfl) (by kernel_rfl) (fun _ _ _ h => h) (Or.inl ⟨by rfl, ?_⟩) (by assumption) ?_
          rotate_left 1
          · (intro w hSw; (try dsimp only at hSw); go_simp <;> (with_reducible rfl))
          try simp only [Act.put, List.getElem_toArray, List.getElem_cons_succ, List.getElem_cons_zero, List.setIfInBounds_toArray, List.set_cons_zero, List.set_cons_succ]
          refine wpAnyH_take (i := 1) (v := ?_) rfl (by kernel_rfl) (by kernel_rfl) (by kernel_rfl) (fun _ _ _ h => h) (Or.inl ⟨by rfl, ?_⟩) (by assumption) ?_
          rotate_left 1
          · (intro w hSw; (try dsimp only at hSw); go_simp <;> (with_reducible rfl))
          try simp only [Act.put, List.getElem_toArray, List.getElem_cons_succ, List.getElem_cons_zero, List.setIfInBounds_toArray, List.set_cons_zero, List.set_cons_succ]
          refine wpAnyH_take (i := 2) (v := ?_) rfl (by kernel_rfl) (by kernel_rfl) (by kernel_rfl) (fun _ _ _ h => h) (Or.inl ⟨by rfl, ?_⟩) (by assumption) ?_
          rotate_left 1
          · (intro w hSw; (try dsimp only at hSw); go_simp <;> (with_reducible rfl))
          try simp only [Act.put, List.getElem_toArray, List.getElem_cons_succ, List.getElem_cons_zero, List.setIfInBounds_toArray, List.set_cons_zero, List.set_cons_succ]
          refine wpAnyH_take (i := 3) (v := ?_) rfl (by kernel_rfl) (by kernel_rfl) (by kernel_rfl) (fun _ _ _ h => h) (Or.inl ⟨by rfl, ?_⟩) (by assumption) ?_
          rotate_left 1
          · (intro w hSw; (try dsimp only at hSw); go_simp <;> (with_reducible rfl))
          try simp only [Act.put, List.getElem_toArray, List.getElem_cons_succ, List.getElem_cons_zero, List.setIfInBounds_toArray, List.set_cons_zero, List.set_cons_succ]
          refine wpAnyH_take (i := 4) (v := ?_) rfl (by kernel_rfl) (by kernel_rfl) (by kernel_rfl) (fun _ _ _ h => h) (Or.inl ⟨by rfl, ?_⟩) (by assumption) ?_
          rotate_left 1
          · (intro w hSw; (try dsimp only at hSw); go_simp <;> (with_reducible rfl))
          try simp only [Act.put, List.getElem_toArray, List.getElem_cons_succ, List.getElem_cons_zero, List.setIfInBounds_toArray, List.set_cons_zero, List.set_cons_succ]
          refine wpAnyH_take (i := 5) (v := ?_) rfl (by kernel_rfl) (by kernel_rfl) (by kernel_rfl) (fun _ _ _ h => h) (Or.inl ⟨by rfl, ?_⟩) (by assumption) ?_
          rotate_left 1
          · (intro w hSw; (try dsimp only at hSw); go_simp <;> (with_reducible rfl))
          try simp only [Act.put, List.getElem_toArray, List.getElem_cons_succ, List.getElem_cons_zero, List.setIfInBounds_toArray, List.set_cons_zero, List.set_cons_succ]
          refine wpAnyH_take (i := 6) (v := ?_) rfl (by kernel_rfl) (by kernel_rfl) (by kernel_rfl) (fun _ _ _ h => h) (Or.inl ⟨by rfl, ?_⟩) (by assumption) ?_
          rotate_left 1
          · (intro w hSw; (try dsimp only at hSw); go_simp <;> (with_reducible rfl))
          try simp only [Act.put, List.getElem_toArray, List.getElem_cons_succ, List.getElem_cons_zero, List.setIfInBounds_toArray, List.set_cons_zero, List.set_cons_succ]
          refine wpAnyH_take (i := 7) (v := ?_) rfl (by kernel_rfl) (by kernel_rfl) (by kernel_rfl) (fun _ _ _ h => h) (Or.inl ⟨by rfl, ?_⟩) (by assumption) ?_
          rotate_left 1
          · (intro w hSw; (try dsimp only at hSw); go_simp <;> (with_reducible rfl))
          try simp only [Act.put, List.getElem_toArray, List.getElem_cons_succ, List.getElem_cons_zero, List.setIfInBounds_toArray, List.set_cons_zero, List.set_cons_succ]
          refine wpAnyH_take (i := 8) (v := ?_) rfl (by kernel_rfl) (by kernel_rfl) (by kernel_rfl) (fun _ _ _ h => h) (Or.inl ⟨by rfl, ?_⟩) (by assumption) ?_
          rotate_left 1
          · (intro w hSw; (try dsimp only at hSw); go_simp <;> (with_reducible rfl))
          try simp only [Act.put, List.getElem_toArray, List.getElem_cons_succ, List.getElem_cons_zero, List.setIfInBounds_toArray, List.set_cons_zero, List.set_cons_succ]
          refine wpAnyH_done (by kernel_rfl) ?_ _
          refine NoPanic.normal ?_
          have b9 := hH0
          clear hH0
          go_wp2_with fail
          go_ret
          exact ⟨ret_bool (by rw [HO.out]), Below.more HW.out b9⟩
      · obtain rfl : k = l.length := by omega
        have HR := Lib.hid (sameF_end hne fun j x hj => HJ.out j x hj); have HW := Lib.hid hw; clear hw
        go_wp2_with fail
        go_ret
        exact ⟨ret_bool (by rw [HR.out]), HW.out⟩
  · have HR : Hid ((l == m) = false) := Lib.hid (beq_false_of_ne fun e => hne (congrArg List.length e))
    have hne' : ((l.length : Int) = (m.length : Int)) = False := eq_false (by omega)
    go_enter Tryd.func15, Tryd.ntmps15
    go_wp2
    go_ret
    exact ⟨ret_bool (by rw [HR.out]), Below.refl _ _⟩
set_option maxRecDepth 100000 in
set_option maxHeartbeats 4000000 in
theorem rfsmall_any (p : Option Addr) (c : Nat) (l : List Fx.Fix) (w : World) (hc : l.length ≤ c) (hl : l.length ≤ 4611686018427387904) (h : Fxs w p l) :
    Calls Tryd.prog 7 #[.slice p l.length c] w (GiveB w (smallX l)) := by
  have HS := Lib.hid h; clear h
  go_enter Tryd.func7, Tryd.ntmps7
  go_wp2
  go_loopw [3] (fun i wr => ∃ k : Nat, k ≤ l.length ∧ i = .int .i64 k ∧ Hid (∀ (j : Nat) (x : Fx.Fix), j < k → l[j]? = some x → smX x = true) ∧ Below w.heap.size w wr) (fun i _ => l.length - (intOf i).toNat)
  case atStart => exact ⟨0, Nat.zero_le _, rfl, fun j x h => absurd h (Nat.not_lt_zero j), Below.refl _ _⟩
  case round =>
    obtain ⟨k, hk, rfl, HJ, hw⟩ := hrel
    by_cases hlt : k < l.length
    · obtain ⟨⟨⟨a, d⟩, ⟨n, e⟩⟩, hx⟩ : ∃ x, l[k]? = some x := ⟨_, List.getElem?_eq_getElem hlt⟩
      obtain ⟨b, o, rfl, k0, k1, k2, k3⟩ := fx_rule (HS.out.below hw) hx
      have HX := Lib.hid hx; have HW := Lib.hid hw
      clear hx hw
      have b0 := Below.refl wr.heap.size wr
      by_cases h1 : (40 : Int) < (n.length : Int)
      · have HO : Hid (smallX l = false) := Lib.hid (smallX_stop HX.out (by cases c : smX ((a, d), (n, e)) with | false => rfl | true => exact absurd (show n.length ≤ 40 from (smX_iff.1 c).1) (by omega)))
        go_wp2_with fail
        go_ret
        exact ⟨ret_bool (by rw [HO.out]), HW.out⟩
      · by_cases h2 : (40 : Int) < (e.length : Int)
        · have HO : Hid (smallX l = false) := Lib.hid (smallX_stop HX.out (by cases c : smX ((a, d), (n, e)) with | false => rfl | true => exact absurd (show e.length ≤ 40 from (smX_iff.1 c).2.1) (by omega)))
          go_wp2_with fail
          go_ret
          exact ⟨ret_bool (by rw [HO.out]), HW.out⟩
        · by_cases h3 : (100 : Int) < (a.length : Int)
          · have HO : Hid (smallX l = false) := Lib.hid (smallX_stop HX.out (by cases c : smX ((a, d), (n, e)) with | false => rfl | true => exact absurd (show a.length ≤ 100 from (smX_iff.1 c).2.2) (by omega)))
            go_wp2_with fail
            go_ret
            exact ⟨ret_bool (by rw [HO.out]), HW.out⟩
          · have HO : Hid (smX ((a, d), (n, e)) = true) := Lib.hid (smX_iff.2 ⟨by show n.length ≤ 40; omega, by show e.length ≤ 40; omega, by show a.length ≤ 100; omega⟩)
            go_wp2_with fail
            go_roundw
            case rel => exact ⟨k + 1, hlt, by go_num, moreK (P := fun _ y => smX y = true) HJ.out HX.out HO.out, HW.out⟩
            case measure => simp [intOf]; omega
    · obtain rfl : k = l.length := by omega
      have HR := Lib.hid (smallX_end HJ.out); have HW := Lib.hid hw; clear hw
      by_cases h60 : (l.length : Int) ≤ 60
      · have HD : Hid (decide (l.length ≤ 60) = true) := Lib.hid (decide_eq_true (by omega))
        go_wp2_with fail
        go_ret
        exact ⟨ret_bool (by rw [HR.out, HD.out]), HW.out⟩
      · have HD : Hid (decide (l.length ≤ 60) = false) := Lib.hid (decide_eq_false (by omega))
        go_wp2_with fail
        go_ret
        exact ⟨ret_bool (by rw [HR.out, HD.out]), HW.out⟩
end Go.Proofs.YtmllklfjngapiaaDoor
