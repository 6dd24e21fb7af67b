/- The document's answers for rounding: Round and Cents. -/
import Derived.Test.YtnahepfnejdcgaaGreatDoorAllRefG
namespace Go.Proofs.YtnahepfnejdcgaaGreatDoor
open Go.RowKit
set_option linter.unusedSimpArgs false
set_option linter.unusedVariables false

set_option maxRecDepth 100000 in
set_option maxHeartbeats 4000000 in
theorem rgr_grid (mode : Int) {x1 x2 g1 g2 : List UInt8} {s : Int} (hs : s ≤ 0) (w : World)
    (CG : Hid (∀ w, Calls Tryz.prog 16 #[.agg #[.string ⟨g1.toArray⟩, .string ⟨g2.toArray⟩]] w (GiveI w s))) :
    Calls Tryz.prog 12 #[.agg #[.string ⟨x1.toArray⟩, .string ⟨x2.toArray⟩], .agg #[.string ⟨g1.toArray⟩, .string ⟨g2.toArray⟩], .int .i64 mode] w (GiveR w ([], [])) := by
  go_enter Tryz.func12, Tryz.ntmps12
  go_wp2_with fail
  obtain ⟨W, hW, BW, sW, k0, k1, k2, k3, r0, r1, r2, r3⟩ := box2z w (.string ⟨x1.toArray⟩) (.string ⟨x2.toArray⟩) (.string ⟨g1.toArray⟩) (.string ⟨g2.toArray⟩) (.string ⟨#[]⟩) (.string ⟨#[]⟩) 23 23 23
  rw [hW]; clear hW sW
  have b0 := Below.refl W.heap.size W
  go_wp2_with fail
  refine (CG.out _).mono ?_
  rintro e w1 ⟨rfl, b⟩
  have b1 := Below.more b0 b
  clear b
  go_wp2_with fail
  refine bodyPost_ret (v := .agg #[.string ⟨#[]⟩, .string ⟨#[]⟩]) (by simp [results, Tryz.results12, go_sem, *]) rfl ⟨rfl, ?_⟩
  exact put2 (Below.more BW b1) (Nat.le_add_right w.heap.size 2) _ _
set_option maxRecDepth 100000 in
set_option maxHeartbeats 4000000 in
theorem rgr_no (mode : Int) {x1 x2 g1 g2 : List UInt8} {s : Int} (hs : ¬ s ≤ 0) {q1 q2 l : List UInt8} {f : Bool} (hl : (l == []) = true) (w : World)
    (CG : Hid (∀ w, Calls Tryz.prog 16 #[.agg #[.string ⟨g1.toArray⟩, .string ⟨g2.toArray⟩]] w (GiveI w s)))
    (CD : Hid (∀ w, Calls Tryz.prog 17 #[.agg #[.string ⟨x1.toArray⟩, .string ⟨x2.toArray⟩], .agg #[.string ⟨g1.toArray⟩, .string ⟨g2.toArray⟩]] w (GiveRB w ((q1, q2), f))))
    (CW : Hid (∀ w, Calls Tryz.prog 10 #[.agg #[.string ⟨q1.toArray⟩, .string ⟨q2.toArray⟩], .int .i64 mode] w (GiveS w l))) :
    Calls Tryz.prog 12 #[.agg #[.string ⟨x1.toArray⟩, .string ⟨x2.toArray⟩], .agg #[.string ⟨g1.toArray⟩, .string ⟨g2.toArray⟩], .int .i64 mode] w (GiveR w ([], [])) := by
  go_enter Tryz.func12, Tryz.ntmps12
  go_wp2_with fail
  obtain ⟨W, hW, BW, sW, k0, k1, k2, k3, r0, r1, r2, r3⟩ := box2z w (.string ⟨x1.toArray⟩) (.string ⟨x2.toArray⟩) (.string ⟨g1.toArray⟩) (.string ⟨g2.toArray⟩) (.string ⟨#[]⟩) (.string ⟨#[]⟩) 23 23 23
  rw [hW]; clear hW sW
  have b0 := Below.refl W.heap.size W
  go_wp2_with fail
  refine (CG.out _).mono ?_
  rintro e w1 ⟨rfl, b⟩
  have b1 := Below.more b0 b
  clear b
  go_wp2_with fail
  refine (CD.out _).mono ?_
  rintro e w2 ⟨rfl, b⟩
  have b2 := Below.more b1 b
  clear b
  have ba := fun x => Below.alloc b2 (Below.size b2) x
  go_wp2_with fail
  obtain ⟨U, hU, bU, sU, q0, q1'⟩ := lay b2 (.string ⟨q1.toArray⟩) (.string ⟨q2.toArray⟩) 23
  rw [hU]; clear hU sU ba
  replace k0 := fun v (h : Below U.heap.size U v) => k0 v (Below.more bU h)
  replace k1 := fun v (h : Below U.heap.size U v) => k1 v (Below.more bU h)
  replace k2 := fun v (h : Below U.heap.size U v) => k2 v (Below.more bU h)
  replace k3 := fun v (h : Below U.heap.size U v) => k3 v (Below.more bU h)
  replace r0 := fun v (h : Below U.heap.size U v) => r0 v (Below.more bU h)
  replace r1 := fun v (h : Below U.heap.size U v) => r1 v (Below.more bU h)
  replace r2 := fun v (h : Below U.heap.size U v) => r2 v (Below.more bU h)
  replace r3 := fun v (h : Below U.heap.size U v) => r3 v (Below.more bU h)
  replace BW := Below.more BW bU
  have b3 := Below.refl U.heap.size U
  clear bU b0 b1 b2
  refine (CW.out _).mono ?_
  rintro e w4 ⟨rfl, b⟩
  have b4 := Below.more b3 b
  clear b
  go_wp2_with fail
  refine bodyPost_ret (v := .agg #[.string ⟨#[]⟩, .string ⟨#[]⟩]) (by simp [results, Tryz.results12, go_sem, *]) rfl ⟨rfl, ?_⟩
  exact put2 (Below.more BW b4) (Nat.le_add_right w.heap.size 2) _ _
set_option maxRecDepth 100000 in
set_option maxHeartbeats 4000000 in
theorem rgr_yes (mode : Int) {x1 x2 g1 g2 : List UInt8} {s : Int} (hs : ¬ s ≤ 0) {q1 q2 l z1 z2 : List UInt8} {f : Bool} (hl : (l == []) = false) (w : World)
    (CG : Hid (∀ w, Calls Tryz.prog 16 #[.agg #[.string ⟨g1.toArray⟩, .string ⟨g2.toArray⟩]] w (GiveI w s)))
    (CD : Hid (∀ w, Calls Tryz.prog 17 #[.agg #[.string ⟨x1.toArray⟩, .string ⟨x2.toArray⟩], .agg #[.string ⟨g1.toArray⟩, .string ⟨g2.toArray⟩]] w (GiveRB w ((q1, q2), f))))
    (CW : Hid (∀ w, Calls Tryz.prog 10 #[.agg #[.string ⟨q1.toArray⟩, .string ⟨q2.toArray⟩], .int .i64 mode] w (GiveS w l)))
    (CM : Hid (∀ w, Calls Tryz.prog 23 #[.agg #[.string ⟨l.toArray⟩, .string ⟨#[49]⟩], .agg #[.string ⟨g1.toArray⟩, .string ⟨g2.toArray⟩]] w (GiveR w (z1, z2)))) :
    Calls Tryz.prog 12 #[.agg #[.string ⟨x1.toArray⟩, .string ⟨x2.toArray⟩], .agg #[.string ⟨g1.toArray⟩, .string ⟨g2.toArray⟩], .int .i64 mode] w (GiveR w (z1, z2)) := by
  go_enter Tryz.func12, Tryz.ntmps12
  go_wp2_with fail
  obtain ⟨W, hW, BW, sW, k0, k1, k2, k3, r0, r1, r2, r3⟩ := box2z w (.string ⟨x1.toArray⟩) (.string ⟨x2.toArray⟩) (.string ⟨g1.toArray⟩) (.string ⟨g2.toArray⟩) (.string ⟨#[]⟩) (.string ⟨#[]⟩) 23 23 23
  rw [hW]; clear hW sW
  have b0 := Below.refl W.heap.size W
  go_wp2_with fail
  refine (CG.out _).mono ?_
  rintro e w1 ⟨rfl, b⟩
  have b1 := Below.more b0 b
  clear b
  go_wp2_with fail
  refine (CD.out _).mono ?_
  rintro e w2 ⟨rfl, b⟩
  have b2 := Below.more b1 b
  clear b
  have ba := fun x => Below.alloc b2 (Below.size b2) x
  go_wp2_with fail
  obtain ⟨U, hU, bU, sU, q0, q1'⟩ := lay b2 (.string ⟨q1.toArray⟩) (.string ⟨q2.toArray⟩) 23
  rw [hU]; clear hU sU ba
  replace k0 := fun v (h : Below U.heap.size U v) => k0 v (Below.more bU h)
  replace k1 := fun v (h : Below U.heap.size U v) => k1 v (Below.more bU h)
  replace k2 := fun v (h : Below U.heap.size U v) => k2 v (Below.more bU h)
  replace k3 := fun v (h : Below U.heap.size U v) => k3 v (Below.more bU h)
  replace r0 := fun v (h : Below U.heap.size U v) => r0 v (Below.more bU h)
  replace r1 := fun v (h : Below U.heap.size U v) => r1 v (Below.more bU h)
  replace r2 := fun v (h : Below U.heap.size U v) => r2 v (Below.more bU h)
  replace r3 := fun v (h : Below U.heap.size U v) => r3 v (Below.more bU h)
  replace BW := Below.more BW bU
  have b3 := Below.refl U.heap.size U
  clear bU b0 b1 b2
  refine (CW.out _).mono ?_
  rintro e w4 ⟨rfl, b⟩
  have b4 := Below.more b3 b
  clear b
  go_wp2_with fail
  refine (CM.out _).mono ?_
  rintro e w5 ⟨rfl, b⟩
  have b5 := Below.more b4 b
  clear b
  go_wp2_with fail
  refine bodyPost_ret (v := .agg #[.string ⟨z1.toArray⟩, .string ⟨z2.toArray⟩]) (by simp [results, Tryz.results12, go_sem, *]) rfl ⟨rfl, ?_⟩
  exact put2 (Below.more BW b5) (Nat.le_add_right w.heap.size 2) _ _
theorem wd_nil (z : Int) : (wd z == []) = false := by
  refine beq_false_of_ne fun e => ?_
  have := isW_wd z
  rw [e] at this
  cases this
theorem sgn_le_zero {q : Rat} : sgnQ q ≤ 0 ↔ ¬ 0 < q := by
  rcases rat_cases q with h | h | h
  · rw [sgnQ_neg h]; exact ⟨fun _ k => Rat.lt_irrefl (Rat.lt_of_le_of_ne (Rat.le_trans (Rat.le_of_lt h) (Rat.le_of_lt k)) (fun e => by rw [e] at h; exact Rat.not_lt.2 (Rat.le_of_lt k) h)), fun _ => by decide⟩
  · subst h; exact ⟨fun _ => Rat.lt_irrefl, fun _ => by decide⟩
  · rw [sgnQ_pos h]; exact ⟨fun k => absurd k (by decide), fun k => absurd h k⟩
theorem whS_len {x : Rat} {k : Nat} (lx : Lq x k) (m : Nat) : (whQ m x).natAbs < 10 ^ (k + 1) := by
  have lf : x.floor.natAbs < 10 ^ k := by
    rw [Rat.floor_def]
    exact Nat.lt_of_le_of_lt (natAbs_ediv _ _) lx.num
  have e : 10 ^ k * 10 = 10 ^ (k + 1) := (Nat.pow_succ 10 k).symm
  have := Nat.pow_pos (n := k) (show 0 < 10 by decide)
  rcases whQ_ways m x with h | ⟨h, _⟩ <;> rw [h] <;> omega
theorem Lq.whole {n : Int} {k : Nat} (h : n.natAbs < 10 ^ k) (hk : k ≤ 10000) (h0 : 0 < k) : Lq (n : Rat) k :=
  ⟨by rw [Rat.num_intCast]; exact h, by rw [Rat.den_intCast]; exact Nat.lt_of_lt_of_le (by decide : 1 < 10 ^ 1) (Nat.pow_le_pow_right (by decide) h0), hk, h0⟩
theorem rground_any (n d m c : ByteArray) (mode : Int) (w : World) (hn : n.size ≤ 1500) (hd : d.size ≤ 1500) (hm : m.size ≤ 1500) (hc : c.size ≤ 1500) :
    Calls Tryz.prog 12 #[.agg #[.string n, .string d], .agg #[.string m, .string c], .int .i64 mode] w (GiveR w (rndS (n.data.toList, d.data.toList) (m.data.toList, c.data.toList) mode)) := by
  have cg := fun w => rqsign_any m c w (by omega) (by omega)
  cases hg : isR (m.data.toList, c.data.toList) && decide (0 < valR (m.data.toList, c.data.toList)) with
  | false =>
    rw [rndS_grid hg]
    have hs : sgnR (m.data.toList, c.data.toList) ≤ 0 := by
      unfold sgnR
      cases h : isR (m.data.toList, c.data.toList) with
      | false => exact Int.le_refl 0
      | true =>
        rw [h, Bool.true_and, decide_eq_false_iff_not] at hg
        exact sgn_le_zero.2 hg
    exact rgr_grid mode (x1 := n.data.toList) (x2 := d.data.toList) hs w (Lib.hid cg)
  | true =>
    rw [Bool.and_eq_true, decide_eq_true_eq] at hg
    obtain ⟨h1, h2⟩ := hg
    have hs : ¬ sgnR (m.data.toList, c.data.toList) ≤ 0 := by
      unfold sgnR
      rw [h1]
      exact fun h => (sgn_le_zero.1 h) h2
    have cd := fun w => rqdiv_any n d m c w (by omega) (by omega) (by omega) (by omega)
    cases hx : isR (n.data.toList, d.data.toList) with
    | false =>
      have e : divR (n.data.toList, d.data.toList) (m.data.toList, c.data.toList) = (([], []), false) := by unfold divR; rw [hx]; rfl
      rw [e] at cd
      have cw := fun w => rgwhole_any ⟨#[]⟩ ⟨#[]⟩ mode w (by decide) (by decide)
      have e2 : whS ((⟨#[]⟩ : ByteArray).data.toList, (⟨#[]⟩ : ByteArray).data.toList) mode = [] := whS_no rfl
      rw [e2] at cw
      rw [rndS_no (by rw [hx]; rfl)]
      exact rgr_no mode (x1 := n.data.toList) (x2 := d.data.toList) (g1 := m.data.toList) (g2 := c.data.toList) (q1 := []) (q2 := []) hs rfl w (Lib.hid cg) (Lib.hid cd) (Lib.hid cw)
    | true =>
      have lx := Lq.of_text (k := 1500) hx hn hd (by decide)
      have lg := Lq.of_text (k := 1500) h1 hm hc (by decide)
      have h0 := ne_of_pos h2
      have e : divR (n.data.toList, d.data.toList) (m.data.toList, c.data.toList) = (rd (valR (n.data.toList, d.data.toList) / valR (m.data.toList, c.data.toList)), true) := by unfold divR; rw [hx, h1, beq_false_of_ne h0]; rfl
      rw [e] at cd
      have er := rd_valR h1
      have ex := rd_valR hx
      obtain ⟨e1, e2⟩ := str_rd h1
      rw [← er, ← ex]
      generalize valR (n.data.toList, d.data.toList) = X at *
      generalize valR (m.data.toList, c.data.toList) = G at *
      have lq : Lq (X / G) 3001 := Lq.div lx lg h0 (by decide)
      have cw := fun w => rgwhole_q lq (by decide) mode w
      have cd : ∀ w, Calls _ _ _ w (GiveRB w ((rdN (X / G), rdD (X / G)), true)) := cd
      by_cases hmode : mode < 0 ∨ 2 < mode
      · rw [whS_mode hmode] at cw
        rw [rndS_no (by
          rcases hmode with h | h
          · rw [decide_eq_false (show ¬ 0 ≤ mode by omega), Bool.false_and, Bool.and_false]
          · rw [decide_eq_false (show ¬ mode ≤ 2 by omega), Bool.and_false, Bool.and_false])]
        exact rgr_no mode (x1 := n.data.toList) (x2 := d.data.toList) (g1 := m.data.toList) (g2 := c.data.toList) hs rfl w (Lib.hid cg) (Lib.hid cd) (Lib.hid cw)
      · obtain ⟨j, rfl⟩ : ∃ j : Nat, mode = (j : Int) := ⟨mode.toNat, by omega⟩
        rw [whS_yes (isR_rd _) (by omega), valR_rd] at cw
        rw [rndS_yes h2 (by omega)]
        have lw : Lq ((whQ j (X / G) : Int) : Rat) (3001 + 1) := Lq.whole (whS_len lq j) (by decide) (by decide)
        have cm := dMul lw lg (z := rndQ j X G) rfl
        rw [rdN_int, rdD_int] at cm
        rw [← e1, ← e2] at cm
        exact rgr_yes _ (x1 := n.data.toList) (x2 := d.data.toList) (g1 := m.data.toList) (g2 := c.data.toList) hs (wd_nil _) w (Lib.hid cg) (Lib.hid cd) (Lib.hid cw) (Lib.hid cm)
set_option maxRecDepth 100000 in
set_option maxHeartbeats 4000000 in
theorem rgcents_any (n d : ByteArray) (w : World) (hn : n.size ≤ 1500) (hd : d.size ≤ 1500) :
    Calls Tryz.prog 14 #[.agg #[.string n, .string d]] w (GiveR w (cenS (n.data.toList, d.data.toList))) := by
  have co : ∀ w, Calls Tryz.prog 25 #[.int .i64 1, .int .i64 100] w (GiveR w ([49], [49, 48, 48])) := fun w => by
    have h := rqone_any 1 100 w (by decide) (by decide) (by decide) (by decide)
    rw [one_c (q := ([49], [49, 48, 48])) (by decide +kernel)] at h
    exact h
  have cr : ∀ w, Calls Tryz.prog 12 #[.agg #[.string n, .string d], .agg #[.string ⟨#[49]⟩, .string ⟨#[49, 48, 48]⟩], .int .i64 2] w (GiveR w (cenS (n.data.toList, d.data.toList))) := fun w => rground_any n d ⟨#[49]⟩ ⟨#[49, 48, 48]⟩ 2 w hn hd (by decide) (by decide)
  generalize cenS (n.data.toList, d.data.toList) = p at *
  clear hn hd
  have CO := Lib.hid co; have CR := Lib.hid cr
  clear co cr
  go_enter Tryz.func14, Tryz.ntmps14
  go_wp2_with fail
  obtain ⟨W, hW, BW, sW, k0, k1, hz⟩ := box1r w (.string n) (.string d) (.string ⟨#[]⟩) (.string ⟨#[]⟩) 23 23
  have hB : Hid (w.heap.size + 1 ≤ W.heap.size) := Lib.hid (Nat.le_of_lt hz.lt)
  rw [hW]; clear hW
  have b0 : Below (w.heap.size + 1) W W := Below.refl _ _
  have hzd := hz.drew; have z0 := hz.c0; have z1 := hz.c1; have z2 := hz.f0; have z3 := hz.f1
  first | (go_region_held3 (fun w' => Below (w.heap.size + 1) W w')
          (first | (exact b0.drew) | (with_reducible assumption) | (exact Below.alloc (by with_reducible assumption) (Nat.le_trans hB.out (Below.size (by with_reducible assumption))) _) | (exact put2 (by with_reducible assumption) (Nat.le_refl _) _ _) | (exact put2 (by with_reducible assumption) hB.out _ _) | (exact put2 (by with_reducible assumption) (Nat.le_trans hB.out (Below.size (by with_reducible assumption))) _ _))
          (first | (go_at_call 25; (with_reducible refine (held (W := W) hB.out (CO.out _) (by assumption)).mono ?_); rintro e w'' ⟨rfl, hb, hw⟩; (first | (have hz := zc_made0 hb) | (have hz := zc_made hb) | skip); (try have hz := Zc.below (by assumption) hb); (try (have z0 := hz.c0; have z1 := hz.c1; have z2 := hz.f0; have z3 := hz.f1))) | (go_at_call 12; (with_reducible refine (held (W := W) hB.out (CR.out _) (by assumption)).mono ?_); rintro e w'' ⟨rfl, hb, hw⟩; (first | (have hz := zc_made0 hb) | (have hz := zc_made hb) | skip); (try have hz := Zc.below (by assumption) hb); (try (have z0 := hz.c0; have z1 := hz.c1; have z2 := hz.f0; have z3 := hz.f1))))) | fail
  all_goals (go_wp2_with fail)
  all_goals (refine bodyPost_ret (v := .agg #[.string ⟨p.1.toArray⟩, .string ⟨p.2.toArray⟩]) (by simp [results, Tryz.results14, go_sem, *]) rfl ⟨rfl, ?_⟩)
  all_goals (first | exact BW.trans (Below.mono (by with_reducible assumption) (Nat.le_succ _)) | exact put2 (BW.trans (Below.mono (by with_reducible assumption) (Nat.le_succ _))) (Nat.le_add_right w.heap.size 1) _ _)
end Go.Proofs.YtnahepfnejdcgaaGreatDoor
