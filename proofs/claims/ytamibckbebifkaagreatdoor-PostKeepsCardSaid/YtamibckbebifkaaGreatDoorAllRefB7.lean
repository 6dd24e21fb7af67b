/- A line more, all ways joined; an asset's total. -/
import Derived.Lib.HexFns
import Derived.Lib.HexFns2
import Derived.Lib.BufferOwn
import Derived.Test.YtamibckbebifkaaGreatDoorSch
import Derived.Test.YtamibckbebifkaaGreatDoorAllRefB6
namespace Go.Proofs.YtamibckbebifkaaGreatDoor
open Go.RowKit
set_option linter.unusedSimpArgs false
set_option linter.unusedVariables false

/-- Texts of a line that are not too long; a fraction's, at most k. -/
def SzK (k : Nat) (x : Ln) : Prop := (x.1.1.length ≤ 4611686018427387904 ∧ x.1.2.length ≤ 4611686018427387904) ∧ (x.2.1.length ≤ k ∧ x.2.2.length ≤ k)
theorem SzK.szL {k : Nat} {x : Ln} (h : SzK k x) (hk : k ≤ 20000) : SzL x := ⟨h.1, Nat.le_trans h.2.1 hk, Nat.le_trans h.2.2 hk⟩
theorem SzK.lq {k : Nat} {x : Ln} (h : SzK k x) (hk : k ≤ 10000) (hr : isR x.2 = true) : Lq (valR x.2) k :=
  Lq.of_text (n := ⟨x.2.1.toArray⟩) (d := ⟨x.2.2.toArray⟩) hr (by rw [size_of]; exact h.2.1) (by rw [size_of]; exact h.2.2) hk
theorem Lq.zero {k : Nat} (hk : k ≤ 10000) (h0 : 0 < k) : Lq 0 k := ⟨Nat.pow_pos (by decide), Nat.lt_of_lt_of_le (by decide : 1 < 10 ^ 1) (Nat.pow_le_pow_right (by decide) h0), hk, h0⟩
theorem hasQ_lq {ls : List Ln} {k : Nat} (h : Good ls) (hz : ∀ x ∈ ls, SzK k x) (hk : k ≤ 10000) (h0 : 0 < k) (key : Key) : Lq (hasQ ls key) k := by
  unfold hasQ
  cases e : lineOf ls key with
  | none => exact Lq.zero hk h0
  | some x =>
    have hx := (of_some e).1
    exact (hz x hx).lq hk (lineIn_rat (h.1 x hx)).1
theorem sgnR_rd (q : Rat) : sgnR (rd q) = sgnQ q := by unfold sgnR; rw [isR_rd, valR_rd]; rfl
theorem rbadd_any (p : Option Addr) (c : Nat) (ls : List Ln) (a s n d : List UInt8) (w : World) (hc : ls.length ≤ c) (hl : ls.length ≤ 1000000) (hz : ∀ x ∈ ls, SzK 4000 x) (hx : SzK 4000 ((a, s), (n, d))) (h : Lns w p ls) :
    Calls Tryz.prog 29 #[.slice p ls.length c, .agg #[.string ⟨a.toArray⟩, .string ⟨s.toArray⟩, .string ⟨n.toArray⟩, .string ⟨d.toArray⟩]] w (GiveLB w (addB ls ((a, s), (n, d)))) := by
  have hzL : ∀ x ∈ ls, SzL x := fun x hx => (hz x hx).szL (by decide)
  have cm := fun v (hv : Below w.heap.size w v) => rbmay_any p c ls v hc (by omega) hzL (h.below hv)
  have cl := fun w => rbline_any a s n d w hx.1.1 hx.1.2 (Nat.le_trans hx.2.1 (by decide)) (Nat.le_trans hx.2.2 (by decide))
  cases hm : mayB ls with
  | false =>
    rw [hm] at cm
    rw [addB_no (by rw [hm]; rfl)]
    exact rba_may p c ls a s n d w (Lib.hid cm)
  | true =>
    rw [hm] at cm
    cases hk : lineOk ((a, s), (n, d)) with
    | false =>
      rw [hk] at cl
      rw [addB_no (by rw [hm, hk]; rfl)]
      exact rba_line p c ls a s n d w (Lib.hid cm) (Lib.hid cl)
    | true =>
      rw [hk] at cl
      have hg := good_iff.1 hm
      have hr : isR (n, d) = true := by unfold lineOk at hk; simp only [Bool.and_eq_true] at hk; exact hk.2.2
      have l1 := hasQ_lq hg hz (by decide) (by decide) (a, s)
      have l2 : Lq (valR (n, d)) 4000 := hx.lq (by decide) hr
      have l3 := Lq.add l1 l2 (by decide)
      have cg := fun v (hv : Below w.heap.size w v) => rbget_any p c ls a s v hc (by omega) hzL (h.below hv)
      rw [getB_rd hg] at cg
      have ca : ∀ w, Calls Tryz.prog 18 #[.agg #[.string ⟨(rdN (hasQ ls (a, s))).toArray⟩, .string ⟨(rdD (hasQ ls (a, s))).toArray⟩], .agg #[.string ⟨n.toArray⟩, .string ⟨d.toArray⟩]] w (GiveR w (rdN (hasQ ls (a, s) + valR (n, d)), rdD (hasQ ls (a, s) + valR (n, d)))) := fun w => by
        have k := dAdd l1 l2 (z := hasQ ls (a, s) + valR (n, d)) rfl w
        have e : ((rdN (valR (n, d)), rdD (valR (n, d))) : Key) = (n, d) := rd_valR hr
        rw [show rdN (valR (n, d)) = n from congrArg Prod.fst e, show rdD (valR (n, d)) = d from congrArg Prod.snd e] at k
        exact k
      have cs := dSign l3 (s := sgnQ (hasQ ls (a, s) + valR (n, d))) rfl
      have e : addB ls ((a, s), (n, d)) = (insB ls (sgnQ (hasQ ls (a, s) + valR (n, d)) == 0) (a, s) (rdN (hasQ ls (a, s) + valR (n, d)), rdD (hasQ ls (a, s) + valR (n, d))), true) := by
        unfold addB putB
        rw [hm, hk, getB_rd hg]
        have e2 : addR (rd (hasQ ls (a, s))) (n, d) = rd (hasQ ls (a, s) + valR (n, d)) := by unfold addR; rw [isR_rd, hr, valR_rd]; rfl
        show (insB ls (sgnR (addR (rd (hasQ ls (a, s))) (n, d)) == 0) (a, s) (addR (rd (hasQ ls (a, s))) (n, d)), true) = _
        rw [e2, sgnR_rd]; rfl
      rw [e]
      exact rba_yes p c ls a s n d _ rfl w hc hl h (Lib.hid cm) (Lib.hid cl) (Lib.hid cg) (Lib.hid ca) (Lib.hid cs)
/-- One block may have turned, and what is new. -/
theorem gb_call {U v v' : World} {b : Nat} (h : U.grownBy v (some b)) (k : Below v.heap.size v v') : U.grownBy v' (some b) := Lib.grownBy_below h k
theorem gb_drew {U v : World} {b : Nat} (h : U.grownBy v (some b)) : U.grownBy v.drew (some b) := ⟨h.os, h.tape, h.output, h.size, h.block⟩
theorem gb_put {U v : World} {b : Nat} (h : U.grownBy v (some b)) (x y : Value) : U.grownBy ((v.setCell ⟨b, 0, none⟩ x).setCell ⟨b, 1, none⟩ y) (some b) := Lib.grownBy_setB (Lib.grownBy_setB h 0 x) 1 y
theorem gb_cell {U v : World} {b g i : Nat} {x : Value} (h : U.grownBy v (some b)) (hg : U.cell? ⟨g, i, none⟩ = some x) (hn : g ≠ b) : v.cell? ⟨g, i, none⟩ = some x := h.cell hg (fun e => hn (Option.some.inj e))
theorem heldG {P : Program} {f : FuncId} {args : Array Value} {r : Nat} {u U : World} {s t v : Value} (c : Calls P f args u fun e w' => e = .returned v ∧ Below u.heap.size u w') (h : U.grownBy u (some r)) (hz : Zc r s t u) :
    Calls P f args u fun e w' => e = .returned v ∧ U.grownBy w' (some r) ∧ Zc r s t w' := c.mono fun _ _ ⟨he, hb⟩ => ⟨he, gb_call h hb, hz.below hb⟩
/-- Sums of the first lines. -/
theorem sum_step {hs : List Ln} {k : Nat} {x : Ln} (hx : hs[k]? = some x) : sumL (hs.take (k + 1)) = addR (sumL (hs.take k)) x.2 := by
  unfold sumL
  rw [List.take_add_one, hx, List.foldl_append]
  rfl
theorem sum_lq {hs : List Ln} {K : Nat} (hr : ∀ x ∈ hs, isR x.2 = true) (hz : ∀ x ∈ hs, SzK K x) : ∀ k, k ≤ hs.length → (hs.length + 1) * (K + 1) ≤ 9000 → ∃ q, sumL (hs.take k) = rd q ∧ Lq q (k * (K + 1) + 1)
  | 0, _, hK => ⟨0, zero_rd, Lq.zero (by omega) (by omega)⟩
  | k + 1, hk, hK => by
    obtain ⟨q, e, l⟩ := sum_lq hr hz k (by omega) hK
    have hx : hs[k]? = some hs[k] := List.getElem?_eq_getElem (by omega)
    have hm : hs[k] ∈ hs := List.getElem_mem _
    have hKK : K ≤ 10000 := by
      have : 1 * (K + 1) ≤ (hs.length + 1) * (K + 1) := Nat.mul_le_mul_right _ (by omega)
      omega
    have l2 := (hz _ hm).lq hKK (hr _ hm)
    have hb : (k + 1 + 1) * (K + 1) ≤ (hs.length + 1) * (K + 1) := Nat.mul_le_mul_right _ (by omega)
    have e1 : (k + 1 + 1) * (K + 1) = k * (K + 1) + (K + 1) + (K + 1) := by rw [Nat.add_mul, Nat.add_mul, Nat.one_mul]
    have e2 : (k + 1) * (K + 1) = k * (K + 1) + (K + 1) := by rw [Nat.add_mul, Nat.one_mul]
    have l3 := Lq.add l l2 (by omega)
    refine ⟨q + valR hs[k].2, ?_, ?_⟩
    · rw [sum_step hx, e]
      unfold addR; rw [isR_rd, hr _ hm, valR_rd]; rfl
    · exact l3.mono (by omega) (by omega)
set_option maxRecDepth 100000 in
set_option maxHeartbeats 4000000 in
theorem rbt_no (p : Option Addr) (c : Nat) (ls : List Ln) (u : List UInt8) (w : World)
    (CM : Hid (∀ v, Below w.heap.size w v → Calls Tryz.prog 16 #[.slice p ls.length c] v (GiveB v false))) :
    Calls Tryz.prog 19 #[.slice p ls.length c, .string ⟨u.toArray⟩] w (GiveR w ([], [])) := by
  go_enter Tryz.func19, Tryz.ntmps19
  go_wp2_with fail
  obtain ⟨W, hW, BW, sW, r0, r1, r2, r3⟩ := box0z w (.string ⟨#[]⟩) (.string ⟨#[]⟩) 31
  rw [hW]; clear hW
  have b0 := Below.refl W.heap.size W
  refine (CM.out _ BW).mono ?_
  rintro e w1 ⟨rfl, b⟩
  have b1 := Below.more b0 b
  clear b
  go_wp2_with fail
  refine bodyPost_ret (v := .agg #[.string ⟨#[]⟩, .string ⟨#[]⟩]) (by simp [results, Tryz.results19, go_sem, *]) rfl ⟨rfl, ?_⟩
  exact put2 (Below.more BW b1) (Nat.le_refl _) _ _
set_option maxRecDepth 100000 in
set_option maxHeartbeats 4000000 in
theorem rbt_yes (p : Option Addr) (c : Nat) (ls : List Ln) (u : List UInt8) (w : World) (hs : List Ln) (hsl : hs.length ≤ 1000000) (hr : ∀ x ∈ hs, isR x.2 = true) (S : Nat → Key) (h0 : S 0 = ([48], [49]))
    (CM : Hid (∀ v, Below w.heap.size w v → Calls Tryz.prog 16 #[.slice p ls.length c] v (GiveB v true)))
    (CO : Hid (∀ w, Calls Tryz.prog 39 #[.int .i64 0] w (GiveR w ([48], [49]))))
    (CH : Hid (∀ v, Below w.heap.size w v → Calls Tryz.prog 45 #[.slice p ls.length c, .string ⟨u.toArray⟩] v (GiveL v hs)))
    (CA : Hid (∀ (k : Nat) (x : Ln), hs[k]? = some x → ∀ w, Calls Tryz.prog 18 #[.agg #[.string ⟨(S k).1.toArray⟩, .string ⟨(S k).2.toArray⟩], .agg #[.string ⟨x.2.1.toArray⟩, .string ⟨x.2.2.toArray⟩]] w (GiveR w (S (k + 1))))) :
    Calls Tryz.prog 19 #[.slice p ls.length c, .string ⟨u.toArray⟩] w (GiveR w (S hs.length)) := by
  go_enter Tryz.func19, Tryz.ntmps19
  go_wp2_with fail
  obtain ⟨W, hW, BW, sW, r0, r1, r2, r3⟩ := box0z w (.string ⟨#[]⟩) (.string ⟨#[]⟩) 31
  rw [hW]; clear hW
  have b0 := Below.refl W.heap.size W
  refine (CM.out _ BW).mono ?_
  rintro e w1 ⟨rfl, b⟩
  have b1 := Below.more b0 b
  clear b
  go_wp2_with fail
  refine (CO.out _).mono ?_
  rintro e w2 ⟨rfl, b⟩
  have b2 := Below.more b1 b
  clear b
  have ba := fun x => Below.alloc b2 (Below.size b2) x
  go_wp2_with fail
  obtain ⟨V, hV, bV, sV, q0, q1⟩ := lay b2 (.string ⟨#[48]⟩) (.string ⟨#[49]⟩) 31
  rw [hV]
  have hz : Zc w2.heap.size (.string ⟨#[48]⟩) (.string ⟨#[49]⟩) V := hV ▸ zc_new _ _ _ _
  clear hV ba q0 q1
  refine (CH.out _ (Below.more BW bV)).mono ?_
  rintro e U ⟨⟨p', c', rfl, hc', hL, hfr⟩, b⟩
  have hz := hz.below b
  have bU := Below.more bV b
  have b2s : W.heap.size ≤ w2.heap.size := b2.size
  have hne : w.heap.size ≠ w2.heap.size := by omega
  have hlt : w2.heap.size < U.heap.size := by have := b.size; omega
  have BU := Below.more BW bU
  have y0 := r0 U bU; have y1 := r1 U bU; have y2 := r2 U bU; have y3 := r3 U bU
  clear b0 b1 b2 bV r0 r1 r2 r3 b CM CO CH
  have HN := Lib.hid hne
  have HL := Lib.hid hL
  have HF := Lib.hid hfr
  have hlw : w.heap.size < w2.heap.size := by have := b2s; omega
  clear hL hfr hne b2s
  go_wp2_with fail
  go_loopw [7] (fun i wr => ∃ k : Nat, k ≤ hs.length ∧ i = .int .i64 k ∧ Zc w2.heap.size (.string ⟨(S k).1.toArray⟩) (.string ⟨(S k).2.toArray⟩) wr ∧ U.grownBy wr (some w2.heap.size)) (fun i _ => hs.length - (intOf i).toNat)
  case atStart => exact ⟨0, Nat.zero_le _, rfl, by rw [h0]; exact hz, ⟨rfl, rfl, rfl, Nat.le_refl _, fun _ _ _ => rfl⟩⟩
  case round =>
    obtain ⟨k, hk, rfl, hz', hg⟩ := hrel
    by_cases hlt' : k < hs.length
    · obtain ⟨⟨⟨a, s⟩, ⟨n, d⟩⟩, hx⟩ : ∃ x, hs[k]? = some x := ⟨_, List.getElem?_eq_getElem hlt'⟩
      obtain ⟨b, o, hp, hbl, c0, c1, c2, c3⟩ := HL.out k _ hx
      have hnb : b ≠ w2.heap.size := by have := HF.out _ hp; have : V.heap.size ≤ b := this; omega
      subst hp
      have k2 : ∀ v, U.grownBy v (some w2.heap.size) → v.cell? ⟨b, o + k * 4 + 2, none⟩ = some (.string ⟨n.toArray⟩) := fun v h => gb_cell h c2 hnb
      have k3 : ∀ v, U.grownBy v (some w2.heap.size) → v.cell? ⟨b, o + k * 4 + 3, none⟩ = some (.string ⟨d.toArray⟩) := fun v h => gb_cell h c3 hnb
      have CAk := Lib.hid (CA.out k _ hx)
      have hzd := hz'.drew
      have z0 := hzd.c0; have z1 := hzd.c1
      have hk1 : (k : Int) < (hs.length : Int) := by omega
      clear CA hx c0 c1 c2 c3 hbl hnb y0 y1 y2 y3 hz'
      go_wp2_with fail
      refine wp_region_noPanic ?_
      refine wp_region_held_drew (S := fun w' => U.grownBy w' (some w2.heap.size)) (by kernel_rfl) (gb_drew hg) (fun hH0 => ?_)
      refine sch_in [1, 2, 3, 4, 5] ?_
      iterate 5 (refine sch_yes (v := ?_) rfl (by kernel_rfl) (by rfl) ?_ (by assumption) ?_; rotate_left 1; (· (intro w hSw; (try dsimp only at hSw); go_simp <;> (with_reducible rfl))); try simp only [Act.put, List.getElem_toArray, List.getElem_cons_succ, List.getElem_cons_zero, List.setIfInBounds_toArray, List.set_cons_zero, List.set_cons_succ])
      refine sch_out ?_
      refine wpAnyH_ready (rs := [0]) (by kernel_rfl) (by simp) ?_
      refine AllReadyH.cons rfl (fun K hK => ?_) AllReadyH.nil
      go_simp
      refine hK.out _ _ hH0 (fun hH1 => ?_)
      clear hK hH0
      try simp only [Act.put, List.getElem_toArray, List.getElem_cons_succ, List.getElem_cons_zero, List.setIfInBounds_toArray, List.set_cons_zero, List.set_cons_succ]
      refine wpAnyH_ready (rs := [6]) (by kernel_rfl) (by simp) ?_
      refine AllReadyH.cons rfl (fun K hK => ?_) AllReadyH.nil
      go_simp
      refine (heldG (CAk.out _) hH1 hzd).mono ?_
      rintro e w'' ⟨rfl, hw, hzw⟩
      have z0 := hzw.c0; have z1 := hzw.c1; have z2 := hzw.f0; have z3 := hzw.f1
      (try go_wp2_with fail)
      refine hK.out _ _ hw (fun hH2 => ?_)
      clear hK hH1
      try simp only [Act.put, List.getElem_toArray, List.getElem_cons_succ, List.getElem_cons_zero, List.setIfInBounds_toArray, List.set_cons_zero, List.set_cons_succ]
      refine wpAnyH_ready (rs := [7]) (by kernel_rfl) (by simp) ?_
      refine AllReadyH.cons rfl (fun K hK => ?_) AllReadyH.nil
      go_simp
      refine hK.out _ _ (gb_put hH2 _ _) (fun hH3 => ?_)
      clear hK hH2
      try simp only [Act.put, List.getElem_toArray, List.getElem_cons_succ, List.getElem_cons_zero, List.setIfInBounds_toArray, List.set_cons_zero, List.set_cons_succ]
      refine wpAnyH_done (by kernel_rfl) ?_ _
      refine NoPanic.normal ?_
      have hZ := Lib.hid (zc_put (x := .string ⟨(S (k + 1)).1.toArray⟩) (y := .string ⟨(S (k + 1)).2.toArray⟩) hzw)
      have hG := Lib.hid hH3
      clear hzw hH3 z0 z1 z2 z3 hzd k2 k3
      go_wp2_with fail
      go_roundw
      case rel => exact ⟨k + 1, hlt', by go_num, hZ.out, hG.out⟩
      case measure => simp [intOf]; omega
    · obtain rfl : k = hs.length := by omega
      have hb' : Below (w.heap.size + 1) U wr := Below.grown (Below.refl _ _) hg (by omega) (fun j hj => by cases hj; have := HN.out; omega)
      have z0 := hz'.c0; have z1 := hz'.c1
      have x0 := (hb'.cell (p := ⟨w.heap.size, 0, none⟩) (Nat.lt_succ_self _)).trans y0
      have x1 := (hb'.cell (p := ⟨w.heap.size, 1, none⟩) (Nat.lt_succ_self _)).trans y1
      have x2 := (hb'.frozen (p := ⟨w.heap.size, 0, none⟩) (Nat.lt_succ_self _)).trans y2
      have x3 := (hb'.frozen (p := ⟨w.heap.size, 1, none⟩) (Nat.lt_succ_self _)).trans y3
      have hBB := Lib.hid (BU.trans (hb'.mono (Nat.le_succ _)))
      clear hb' hz' hg CA y0 y1 y2 y3 BU bU
      go_wp2_with fail
      refine bodyPost_ret (v := .agg #[.string ⟨(S hs.length).1.toArray⟩, .string ⟨(S hs.length).2.toArray⟩]) (by simp [results, Tryz.results19, go_sem, *]) rfl ⟨rfl, ?_⟩
      exact put2 hBB.out (Nat.le_refl _) _ _
theorem rbtotal_any (p : Option Addr) (c : Nat) (ls : List Ln) (u : List UInt8) (w : World) {K : Nat} (hc : ls.length ≤ c) (hl : ls.length ≤ 1000000) (hz : ∀ x ∈ ls, SzK K x) (hK : (ls.length + 1) * (K + 1) ≤ 9000) (h : Lns w p ls) :
    Calls Tryz.prog 19 #[.slice p ls.length c, .string ⟨u.toArray⟩] w (GiveR w (totB ls u)) := by
  have hKK : K ≤ 9000 := by
    have : 1 * (K + 1) ≤ (ls.length + 1) * (K + 1) := Nat.mul_le_mul_right _ (by omega)
    omega
  have hzL : ∀ x ∈ ls, SzL x := fun x hx => (hz x hx).szL (by omega)
  have cm := fun v (hv : Below w.heap.size w v) => rbmay_any p c ls v hc (by omega) hzL (h.below hv)
  have ch := fun v (hv : Below w.heap.size w v) => rbholders_any p c ls u v hc hl hzL (h.below hv)
  have co : ∀ w, Calls Tryz.prog 39 #[.int .i64 0] w (GiveR w ([48], [49])) := fun w => by
    have k := rqof_any 0 w (by decide) (by decide)
    rw [wd_0] at k
    exact k
  unfold totB
  cases hm : mayB ls with
  | false => rw [hm] at cm; exact rbt_no p c ls u w (Lib.hid cm)
  | true =>
    rw [hm] at cm
    have hg := good_iff.1 hm
    have hsub : ∀ x ∈ holdB ls u, x ∈ ls := fun x hx => by
      unfold holdB at hx; rw [hm] at hx; exact (List.mem_filter.1 hx).1
    have hr : ∀ x ∈ holdB ls u, isR x.2 = true := fun x hx => (lineIn_rat (hg.1 x (hsub x hx))).1
    have hlen : (holdB ls u).length ≤ ls.length := by unfold holdB; rw [hm]; exact List.length_filter_le _ _
    have hKh : ((holdB ls u).length + 1) * (K + 1) ≤ 9000 := Nat.le_trans (Nat.mul_le_mul_right _ (by omega)) hK
    have hzh : ∀ x ∈ holdB ls u, SzK K x := fun x hx => hz x (hsub x hx)
    have ca : ∀ (k : Nat) (x : Ln), (holdB ls u)[k]? = some x → ∀ w, Calls Tryz.prog 18 #[.agg #[.string ⟨(sumL ((holdB ls u).take k)).1.toArray⟩, .string ⟨(sumL ((holdB ls u).take k)).2.toArray⟩], .agg #[.string ⟨x.2.1.toArray⟩, .string ⟨x.2.2.toArray⟩]] w (GiveR w (sumL ((holdB ls u).take (k + 1)))) := fun k x hx w => by
      have hk := (List.getElem?_eq_some_iff.1 hx).1
      have hmx := List.mem_of_getElem? hx
      obtain ⟨q, e, l⟩ := sum_lq hr hzh k (by omega) hKh
      have s1 : (sumL ((holdB ls u).take k)).1.length ≤ 20000 := by rw [e]; exact Nat.le_trans l.len1 (by have := l.le; omega)
      have s2 : (sumL ((holdB ls u).take k)).2.length ≤ 20000 := by rw [e]; exact Nat.le_trans l.len2 (by have := l.le; omega)
      have s3 := (hzh x hmx).2
      rw [sum_step hx]
      exact rqadd_any ⟨(sumL ((holdB ls u).take k)).1.toArray⟩ ⟨(sumL ((holdB ls u).take k)).2.toArray⟩ ⟨x.2.1.toArray⟩ ⟨x.2.2.toArray⟩ w (by rw [size_of]; exact s1) (by rw [size_of]; exact s2) (by rw [size_of]; omega) (by rw [size_of]; omega)
    have k := rbt_yes p c ls u w (holdB ls u) (by omega) hr (fun k => sumL ((holdB ls u).take k)) rfl (Lib.hid cm) (Lib.hid co) (Lib.hid ch) (Lib.hid ca)
    rw [List.take_length] at k
    exact k
end Go.Proofs.YtamibckbebifkaaGreatDoor
