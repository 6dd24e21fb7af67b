/- An asset's total, by halves; what an account has; the lines of an asset. -/
import Derived.Test.YtemnimbedmkagaaGreatDoorBookApi
import Derived.Test.YtemnimbedmkagaaGreatDoorAllBk2
import Derived.Test.YtemnimbedmkagaaGreatDoorAllBk4
namespace Go.Proofs.YtemnimbedmkagaaGreatDoor
open Go.RowKit
set_option linter.unusedSimpArgs false
set_option linter.unusedVariables false
theorem Lns.takes {w : World} {p : Option Addr} {ls : List Ln} (h : Lns w p ls) (i : Nat) : Lns w p (ls.take i) := fun j x hx => by
  have hj := (List.getElem?_eq_some_iff.1 hx).1
  rw [List.length_take] at hj
  rw [List.getElem?_take_of_lt (by omega)] at hx
  exact h j x hx
theorem Lns.drops {w : World} {b o : Nat} {ls : List Ln} (h : Lns w (some ⟨b, o, none⟩) ls) (i : Nat) : Lns w (some ⟨b, o + i * 4, none⟩) (ls.drop i) := fun j x hx => by
  rw [List.getElem?_drop] at hx
  obtain ⟨b', o', hp, hl, c0, c1, c2, c3⟩ := h (i + j) x hx
  cases hp
  rw [Nat.add_mul, ← Nat.add_assoc] at c0 c1 c2 c3
  exact ⟨b, o + i * 4, rfl, hl, c0, c1, c2, c3⟩
theorem sum_lq2 {ls : List Ln} {K : Nat} (hr : ∀ x ∈ ls, isR x.2 = true) (hz : ∀ x ∈ ls, SzK K x) (hK : (ls.length + 1) * (K + 1) ≤ 9000) : (sumL ls).1.length ≤ 20000 ∧ (sumL ls).2.length ≤ 20000 := by
  obtain ⟨q, e, l⟩ := sum_lq hr hz ls.length (Nat.le_refl _) hK
  rw [List.take_length] at e
  rw [e]
  exact ⟨Nat.le_trans l.len1 (by have := l.le; omega), Nat.le_trans l.len2 (by have := l.le; omega)⟩
set_option maxRecDepth 100000 in
set_option maxHeartbeats 4000000 in
theorem bs_0 (p : Option Addr) (c : Nat) (w : World)
    (CO : Hid (∀ V, Below w.heap.size w V → Calls Tryz.prog 37 #[.int .i64 0] V (GiveR V ([48], [49])))) :
    Calls Tryz.prog 38 #[.slice p 0 c] w (GiveR w ([48], [49])) := by
  go_enter Tryz.func38, Tryz.ntmps38
  go_wp2_with fail
  obtain ⟨W, hW, BW, sW, r0, r1, r2, r3⟩ := box0z w (.string ⟨#[]⟩) (.string ⟨#[]⟩) 25
  rw [hW]; clear hW
  have b0 := Below.refl W.heap.size W
  refine (CO.out _ BW).mono ?_
  rintro e w1 ⟨rfl, b⟩
  have b1 := Below.more b0 b
  clear b
  go_wp2_with fail
  refine bodyPost_ret (v := .agg #[.string ⟨#[48]⟩, .string ⟨#[49]⟩]) (by simp [results, Tryz.results38, go_sem, *]) rfl ⟨rfl, ?_⟩
  exact put2 (Below.more BW b1) (Nat.le_refl _) _ _
set_option maxRecDepth 100000 in
set_option maxHeartbeats 4000000 in
theorem bs_1 (p : Option Addr) (c : Nat) (a s n d : List UInt8) (w : World) (h : Lns w p [((a, s), (n, d))]) :
    Calls Tryz.prog 38 #[.slice p 1 c] w (GiveR w (n, d)) := by
  obtain ⟨b, o, rfl, k0, k1, k2, k3⟩ := h.rule (k := 0) rfl
  simp only [Nat.zero_mul, Nat.add_zero] at k0 k1 k2 k3
  clear h k0 k1
  have ka := fun x => k2 (w.alloc x) (Below.step x (Below.refl _ _))
  have kb := fun x => k3 (w.alloc x) (Below.step x (Below.refl _ _))
  clear k2 k3
  go_enter Tryz.func38, Tryz.ntmps38
  go_wp2_with fail
  refine bodyPost_ret (v := .agg #[.string ⟨n.toArray⟩, .string ⟨d.toArray⟩]) (by simp [results, Tryz.results38, go_sem, *]) rfl ⟨rfl, ?_⟩
  first | exact put2 (Below.step _ (Below.refl _ _)) (Nat.le_refl _) _ _ | exact Below.step _ (Below.refl _ _)
theorem heldV {P : Program} {f : FuncId} {args : Array Value} {w W : World} {v : Value} {B : Nat} (hB : B ≤ W.heap.size) (c : ∀ V, Below B W V → Calls P f args V fun e w' => e = .returned v ∧ Below V.heap.size V w') (h : Below B W w) :
    Calls P f args w fun e w' => e = .returned v ∧ Below w.heap.size w w' ∧ Below B W w' := held hB (c w h) h
set_option maxRecDepth 100000 in
set_option maxHeartbeats 4000000 in
theorem bs_2 (b o N m c : Nat) (x1 x2 y1 y2 : List UInt8) (r : Key) (w : World) (hN : 2 ≤ N) (hm : m = N / 2) (hc : N ≤ c) (hl : N ≤ 1000000)
    (C1 : Hid (∀ V, Below w.heap.size w V → Calls Tryz.prog 38 #[.slice (some ⟨b, o, none⟩) m c] V (GiveR V (x1, x2))))
    (C2 : Hid (∀ V, Below w.heap.size w V → Calls Tryz.prog 38 #[.slice (some ⟨b, o + m * 4, none⟩) (N - m) (c - m)] V (GiveR V (y1, y2))))
    (CA : Hid (∀ V, Calls Tryz.prog 30 #[.agg #[.string ⟨x1.toArray⟩, .string ⟨x2.toArray⟩], .agg #[.string ⟨y1.toArray⟩, .string ⟨y2.toArray⟩]] V (GiveR V r))) :
    Calls Tryz.prog 38 #[.slice (some ⟨b, o, none⟩) N c] w (GiveR w r) := by
  have h0 : ¬ (N : Int) = 0 := by omega
  have h1 : ¬ (N : Int) = 1 := by omega
  have hmi : (N : Int).tdiv 2 = (m : Int) := by rw [Int.tdiv_eq_ediv_of_nonneg (by omega)]; omega
  have hme : (N : Int) / 2 = (m : Int) := by omega
  have hmc : ¬ c = m := by omega
  have hc0 : ¬ c = 0 := by omega
  have hmN : m ≤ N := by omega
  have hmC : m ≤ c := by omega
  clear hm
  go_enter Tryz.func38, Tryz.ntmps38
  go_upto_region 7 with fail
  obtain ⟨W, hW⟩ : ∃ W, w.alloc (.cells #[.string ⟨#[]⟩, .string ⟨#[]⟩] 25) = W := ⟨_, rfl⟩
  rw [hW]
  have hz : Zc w.heap.size (.string ⟨#[]⟩) (.string ⟨#[]⟩) W := hW ▸ zc_new _ _ _ _
  have BW : Below w.heap.size w W := hW ▸ Below.step _ (Below.refl _ _)
  clear hW
  have b0 := Below.refl W.heap.size W
  have z0 := hz.c0; have z1 := hz.c1; have z2 := hz.f0; have z3 := hz.f1
  have hB : Hid (w.heap.size ≤ W.heap.size) := Lib.hid (Nat.le_of_lt hz.lt)
  replace b0 : Below w.heap.size W W := Below.refl _ _
  have hzd := hz.drew
  have D1 := Lib.hid fun V h => C1.out V (BW.trans h)
  have D2 := Lib.hid fun V h => C2.out V (BW.trans h)
  go_region_held3 (fun w' => Below w.heap.size W w')
        (first | (exact b0.drew) | (with_reducible assumption) | (exact put2 (by with_reducible assumption) (Nat.le_refl _) _ _))
        (first | (go_at_call 38; (with_reducible show Calls _ _ #[.slice (some ⟨b, o, none⟩) m c] _ _); (with_reducible refine (heldV (W := W) hB.out D1.out (by assumption)).mono ?_); rintro e w'' ⟨rfl, hb, hw⟩; (have hz := Zc.below (by assumption) hb); (have z0 := hz.c0; have z1 := hz.c1; have z2 := hz.f0; have z3 := hz.f1)) | (go_at_call 38; (with_reducible show Calls _ _ #[.slice (some ⟨b, o + m * 4, none⟩) (N - m) (c - m)] _ _); (with_reducible refine (heldV (W := W) hB.out D2.out (by assumption)).mono ?_); rintro e w'' ⟨rfl, hb, hw⟩; (have hz := Zc.below (by assumption) hb); (have z0 := hz.c0; have z1 := hz.c1; have z2 := hz.f0; have z3 := hz.f1)) | (go_at_call 30; (with_reducible show Calls _ _ #[.agg #[.string ⟨x1.toArray⟩, .string ⟨x2.toArray⟩], .agg #[.string ⟨y1.toArray⟩, .string ⟨y2.toArray⟩]] _ _); (with_reducible refine (held (W := W) hB.out (CA.out _) (by assumption)).mono ?_); rintro e w'' ⟨rfl, hb, hw⟩; (have hz := Zc.below (by assumption) hb); (have z0 := hz.c0; have z1 := hz.c1; have z2 := hz.f0; have z3 := hz.f1)))
  all_goals (go_wp2_with fail)
  all_goals (refine bodyPost_ret (v := .agg #[.string ⟨r.1.toArray⟩, .string ⟨r.2.toArray⟩]) (by simp [results, Tryz.results38, go_sem, *]) rfl ⟨rfl, ?_⟩)
  all_goals (exact put2 (BW.trans (by with_reducible assumption)) (Nat.le_refl _) _ _)
theorem bsum_any {K : Nat} (N : Nat) : ∀ (p : Option Addr) (c : Nat) (ls : List Ln) (w : World), ls.length ≤ N → ls.length ≤ c → ls.length ≤ 1000000 → (∀ x ∈ ls, isR x.2 = true) → (∀ x ∈ ls, SzK K x) → (ls.length + 1) * (K + 1) ≤ 9000 → Lns w p ls → GoodT w →
    Calls Tryz.prog 38 #[.slice p ls.length c] w (GiveR w (sumL ls)) := by
  induction N with
  | zero =>
    intro p c ls w hN hc hl hr hz hK h ht
    obtain rfl : ls = [] := List.length_eq_zero_iff.1 (by omega)
    exact bs_0 p c w (Lib.hid fun z hv => by
      have k := qof_any 0 z (by decide) (by decide) (ht.below hv)
      rw [wd_0] at k
      exact k)
  | succ N ih =>
    intro p c ls w hN hc hl hr hz hK h ht
    match ls, hN, hc, hl, hr, hz, hK, h with
    | [], hN, hc, hl, hr, hz, hK, h => exact ih p c [] w (by simp) hc hl hr hz hK h ht
    | [((a, s), (n, d))], hN, hc, hl, hr, hz, hK, h =>
      rw [sum_one (hr _ (List.mem_singleton.2 rfl))]
      exact bs_1 p c a s n d w h
    | x :: y :: r, hN, hc, hl, hr, hz, hK, h =>
      obtain ⟨b, o, rfl, _⟩ := h 0 x rfl
      have hlen : 2 ≤ (x :: y :: r).length := by simp
      generalize x :: y :: r = L at *
      have h1 : (L.take (L.length / 2)).length = L.length / 2 := by rw [List.length_take]; omega
      have h2 : (L.drop (L.length / 2)).length = L.length - L.length / 2 := List.length_drop
      have r1 : ∀ x ∈ L.take (L.length / 2), isR x.2 = true := fun x hx => hr x (List.mem_of_mem_take hx)
      have r2 : ∀ x ∈ L.drop (L.length / 2), isR x.2 = true := fun x hx => hr x (List.mem_of_mem_drop hx)
      have s1 : ∀ x ∈ L.take (L.length / 2), SzK K x := fun x hx => hz x (List.mem_of_mem_take hx)
      have s2 : ∀ x ∈ L.drop (L.length / 2), SzK K x := fun x hx => hz x (List.mem_of_mem_drop hx)
      have k1 : ((L.take (L.length / 2)).length + 1) * (K + 1) ≤ 9000 := Nat.le_trans (Nat.mul_le_mul_right _ (by rw [h1]; omega)) hK
      have k2 : ((L.drop (L.length / 2)).length + 1) * (K + 1) ≤ 9000 := Nat.le_trans (Nat.mul_le_mul_right _ (by rw [h2]; omega)) hK
      have c1 := fun V (hv : Below w.heap.size w V) => ih (some ⟨b, o, none⟩) c (L.take (L.length / 2)) V (by omega) (by omega) (by omega) r1 s1 k1 ((h.below hv).takes _) (ht.below hv)
      have c2 := fun V (hv : Below w.heap.size w V) => ih (some ⟨b, o + L.length / 2 * 4, none⟩) (c - L.length / 2) (L.drop (L.length / 2)) V (by omega) (by omega) (by omega) r2 s2 k2 ((h.below hv).drops _) (ht.below hv)
      rw [h1] at c1
      rw [h2] at c2
      have l1 := sum_lq2 r1 s1 k1
      have l2 := sum_lq2 r2 s2 k2
      have ca := fun V => qadd_any ⟨(sumL (L.take (L.length / 2))).1.toArray⟩ ⟨(sumL (L.take (L.length / 2))).2.toArray⟩ ⟨(sumL (L.drop (L.length / 2))).1.toArray⟩ ⟨(sumL (L.drop (L.length / 2))).2.toArray⟩ V (by rw [size_of]; exact l1.1) (by rw [size_of]; exact l1.2) (by rw [size_of]; exact l2.1) (by rw [size_of]; exact l2.2)
      have e := sum_halves r1 r2
      rw [List.take_append_drop] at e
      rw [← e]
      exact bs_2 b o L.length (L.length / 2) c _ _ _ _ _ w hlen rfl hc hl (Lib.hid c1) (Lib.hid c2) (Lib.hid ca)
theorem bget_any (p : Option Addr) (c : Nat) (ls : List Ln) (u v : List UInt8) (w : World) (hc : ls.length ≤ c) (hl : ls.length ≤ 1000000) (hz : ∀ x ∈ ls, SzL x) (h : Lns w p ls) (ht : GoodT w) :
    Calls Tryz.prog 16 #[.slice p ls.length c, .string ⟨u.toArray⟩, .string ⟨v.toArray⟩] w (GiveR w (getB ls (u, v))) := by
  have cm := fun z (hv : Below w.heap.size w z) => bmay_any p c ls z hc hl hz (h.below hv)
  unfold getB
  cases hm : mayB ls with
  | false => rw [hm] at cm; exact bg_no p c ls u v w (Lib.hid cm)
  | true =>
    rw [hm] at cm
    have hg := good_iff.1 hm
    have cf := fun z (hv : Below w.heap.size w z) => find_any p c ls u v [] [] z hc hl hg.2 (h.below hv)
    have co : ∀ z, Below w.heap.size w z → Calls Tryz.prog 37 #[.int .i64 0] z (GiveR z ([48], [49])) := fun z hv => by
      have k := qof_any 0 z (by decide) (by decide) (ht.below hv)
      rw [wd_0] at k
      exact k
    unfold rawB
    rcases place hg.2 (u, v) with ⟨ht, q, hx, e, _⟩ | ⟨ht, e, _⟩
    · rw [ht] at cf
      rw [e]
      exact bg_in p c ls u v w _ u v q.1 q.2 hc hl h hx (Lib.hid cm) (Lib.hid cf)
    · rw [ht] at cf
      rw [e]
      exact bg_out p c ls u v w _ (Lib.hid cm) (Lib.hid cf) (Lib.hid co)
set_option maxRecDepth 100000 in
set_option maxHeartbeats 4000000 in
theorem bh_no (p : Option Addr) (c : Nat) (ls : List Ln) (u : List UInt8) (w : World)
    (CM : Hid (∀ V, Below w.heap.size w V → Calls Tryz.prog 12 #[.slice p ls.length c] V (GiveB V false))) :
    Calls Tryz.prog 20 #[.slice p ls.length c, .string ⟨u.toArray⟩] w (GiveLs w []) := by
  go_enter Tryz.func20, Tryz.ntmps20
  go_wp2_with fail
  have b0 := Below.refl w.heap.size w
  refine (CM.out _ b0).mono ?_
  rintro e w1 ⟨rfl, b⟩
  have b1 := Below.more b0 b
  clear b
  go_wp2_with fail
  go_ret
  exact ⟨⟨none, 0, rfl, Nat.le_refl _, Lns.nil _ _⟩, b1⟩
set_option maxRecDepth 100000 in
set_option maxHeartbeats 4000000 in
theorem bh_yes (p : Option Addr) (c : Nat) (ls : List Ln) (u : List UInt8) (w : World) (hs : List Ln)
    (CM : Hid (∀ V, Below w.heap.size w V → Calls Tryz.prog 12 #[.slice p ls.length c] V (GiveB V true)))
    (CH : Hid (∀ V, Below w.heap.size w V → Calls Tryz.prog 39 #[.slice p ls.length c, .string ⟨u.toArray⟩] V (GiveL V hs))) :
    Calls Tryz.prog 20 #[.slice p ls.length c, .string ⟨u.toArray⟩] w (GiveLs w hs) := by
  go_enter Tryz.func20, Tryz.ntmps20
  go_wp2_with fail
  have b0 := Below.refl w.heap.size w
  refine (CM.out _ b0).mono ?_
  rintro e w1 ⟨rfl, b⟩
  have b1 := Below.more b0 b
  clear b
  go_wp2_with fail
  refine (CH.out _ b1).mono ?_
  rintro e w2 ⟨⟨p', c', rfl, hc', hL, hfr⟩, b⟩
  have b2 := Below.more b1 b
  have HL := Lib.hid hL
  clear b hL hfr
  go_wp2_with fail
  go_ret
  exact ⟨⟨p', c', rfl, hc', HL.out⟩, b2⟩
theorem bholders_any (p : Option Addr) (c : Nat) (ls : List Ln) (u : List UInt8) (w : World) (hc : ls.length ≤ c) (hl : ls.length ≤ 1000000) (hz : ∀ x ∈ ls, SzL x) (h : Lns w p ls) :
    Calls Tryz.prog 20 #[.slice p ls.length c, .string ⟨u.toArray⟩] w (GiveLs w (holdB ls u)) := by
  have cm := fun z (hv : Below w.heap.size w z) => bmay_any p c ls z hc hl hz (h.below hv)
  have ch := fun z (hv : Below w.heap.size w z) => bof_any p c ls u z hc hl (h.below hv)
  unfold holdB
  cases hm : mayB ls with
  | false => rw [hm] at cm; exact bh_no p c ls u w (Lib.hid cm)
  | true => rw [hm] at cm; exact bh_yes p c ls u w _ (Lib.hid cm) (Lib.hid ch)
set_option maxRecDepth 100000 in
set_option maxHeartbeats 4000000 in
theorem bt_no (p : Option Addr) (c : Nat) (ls : List Ln) (u : List UInt8) (w : World)
    (CM : Hid (∀ V, Below w.heap.size w V → Calls Tryz.prog 12 #[.slice p ls.length c] V (GiveB V false))) :
    Calls Tryz.prog 18 #[.slice p ls.length c, .string ⟨u.toArray⟩] w (GiveR w ([], [])) := by
  go_enter Tryz.func18, Tryz.ntmps18
  go_wp2_with fail
  obtain ⟨W, hW, BW, sW, r0, r1, r2, r3⟩ := box0z w (.string ⟨#[]⟩) (.string ⟨#[]⟩) 25
  rw [hW]; clear hW
  have b0 := Below.refl W.heap.size W
  refine (CM.out _ BW).mono ?_
  rintro e w1 ⟨rfl, b⟩
  have b1 := Below.more b0 b
  clear b
  go_wp2_with fail
  refine bodyPost_ret (v := .agg #[.string ⟨#[]⟩, .string ⟨#[]⟩]) (by simp [results, Tryz.results18, go_sem, *]) rfl ⟨rfl, ?_⟩
  exact put2 (Below.more BW b1) (Nat.le_refl _) _ _
set_option maxRecDepth 100000 in
set_option maxHeartbeats 4000000 in
theorem bt_yes (p : Option Addr) (c : Nat) (ls : List Ln) (u : List UInt8) (w : World) (hs : List Ln) (r : Key)
    (CM : Hid (∀ V, Below w.heap.size w V → Calls Tryz.prog 12 #[.slice p ls.length c] V (GiveB V true)))
    (CH : Hid (∀ V, Below w.heap.size w V → Calls Tryz.prog 39 #[.slice p ls.length c, .string ⟨u.toArray⟩] V (GiveL V hs)))
    (CS : Hid (∀ V q k, Below w.heap.size w V → hs.length ≤ k → Lns V q hs → Calls Tryz.prog 38 #[.slice q hs.length k] V (GiveR V r))) :
    Calls Tryz.prog 18 #[.slice p ls.length c, .string ⟨u.toArray⟩] w (GiveR w r) := by
  go_enter Tryz.func18, Tryz.ntmps18
  go_wp2_with fail
  obtain ⟨W, hW, BW, sW, r0, r1, r2, r3⟩ := box0z w (.string ⟨#[]⟩) (.string ⟨#[]⟩) 25
  rw [hW]; clear hW
  have b0 := Below.refl W.heap.size W
  refine (CM.out _ BW).mono ?_
  rintro e w1 ⟨rfl, b⟩
  have b1 := Below.more b0 b
  clear b
  go_wp2_with fail
  refine (CH.out _ (Below.more BW b1)).mono ?_
  rintro e w2 ⟨⟨p', c', rfl, hc', hL, hfr⟩, b⟩
  have b2 := Below.more b1 b
  have HL := Lib.hid hL
  clear b hL hfr
  go_wp2_with fail
  refine (CS.out _ _ _ (Below.more BW b2) hc' HL.out).mono ?_
  rintro e w3 ⟨rfl, b⟩
  have b3 := Below.more b2 b
  clear b HL
  go_wp2_with fail
  refine bodyPost_ret (v := .agg #[.string ⟨r.1.toArray⟩, .string ⟨r.2.toArray⟩]) (by simp [results, Tryz.results18, go_sem, *]) rfl ⟨rfl, ?_⟩
  exact put2 (Below.more BW b3) (Nat.le_refl _) _ _
theorem btotal_any (p : Option Addr) (c : Nat) (ls : List Ln) (u : List UInt8) (K : Nat) (w : World) (hc : ls.length ≤ c) (hl : ls.length ≤ 1000000) (hz : ∀ x ∈ ls, SzK K x) (hK : (ls.length + 1) * (K + 1) ≤ 9000) (h : Lns w p ls) (ht : GoodT w) :
    Calls Tryz.prog 18 #[.slice p ls.length c, .string ⟨u.toArray⟩] w (GiveR w (totB ls u)) := by
  have hKK : K ≤ 9000 := by
    have : 1 * (K + 1) ≤ (ls.length + 1) * (K + 1) := Nat.mul_le_mul_right _ (by omega)
    omega
  have hzL : ∀ x ∈ ls, SzL x := fun x hx => (hz x hx).szL (by omega)
  have cm := fun z (hv : Below w.heap.size w z) => bmay_any p c ls z hc hl hzL (h.below hv)
  have ch := fun z (hv : Below w.heap.size w z) => bof_any p c ls u z hc hl (h.below hv)
  unfold totB
  cases hm : mayB ls with
  | false => rw [hm] at cm; exact bt_no p c ls u w (Lib.hid cm)
  | true =>
    rw [hm] at cm
    have hg := good_iff.1 hm
    have e : holdB ls u = ls.filter fun x => x.1.2 == u := by unfold holdB; rw [hm]; rfl
    rw [e]
    have hsub : ∀ x ∈ ls.filter (fun x => x.1.2 == u), x ∈ ls := fun x hx => (List.mem_filter.1 hx).1
    have hlen := List.length_filter_le (fun x : Ln => x.1.2 == u) ls
    refine bt_yes p c ls u w _ _ (Lib.hid cm) (Lib.hid ch) (Lib.hid fun V q k hv hk hL => ?_)
    exact bsum_any _ q k _ V (Nat.le_refl _) hk (by omega) (fun x hx => (lineIn_rat (hg.1 x (hsub x hx))).1) (fun x hx => hz x (hsub x hx)) (Nat.le_trans (Nat.mul_le_mul_right _ (by omega)) hK) hL (ht.below hv)
end Go.Proofs.YtemnimbedmkagaaGreatDoor
