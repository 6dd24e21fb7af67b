/- BookBack, all ways joined. -/
import Derived.Test.YtemnimbedmkagaaGreatDoorWBack6s
import Derived.Test.YtemnimbedmkagaaGreatDoorWBack6t
namespace Go.Proofs.YtemnimbedmkagaaGreatDoor
open Go.RowKit
set_option linter.unusedVariables false
variable {G : World → Prop}
theorem tot_len {ls : List Ln} (hm : mayB ls = true) (u : List UInt8) (h40 : ls.length ≤ 40) (hz : ∀ x ∈ ls, SzK 100 x) : (totB ls u).1.length ≤ 20000 ∧ (totB ls u).2.length ≤ 20000 := by
  have hg := good_iff.1 hm
  have e0 : totB ls u = sumL (holdB ls u) := by unfold totB; rw [hm]; rfl
  have hsub : ∀ x ∈ holdB ls u, x ∈ ls := fun x hx => by
    unfold holdB at hx; rw [hm] at hx; exact (List.mem_filter.1 hx).1
  have hlen : (holdB ls u).length ≤ ls.length := by unfold holdB; rw [hm]; exact List.length_filter_le _ _
  obtain ⟨q, e, l⟩ := sum_lq (K := 100) (fun x hx => (lineIn_rat (hg.1 x (hsub x hx))).1) (fun x hx => hz x (hsub x hx)) (holdB ls u).length (Nat.le_refl _) (by omega)
  rw [List.take_length] at e
  rw [e0, e]
  exact ⟨Nat.le_trans l.len1 (by have := l.le; omega), Nat.le_trans l.len2 (by have := l.le; omega)⟩
set_option maxHeartbeats 1000000 in
theorem back6_any (H : BookC G) (p : Option Addr) (c : Nat) (ls : List Ln) (a s n d a2 s2 n2 d2 : List UInt8) (w : World) (hc : ls.length ≤ c) (hl : ls.length ≤ 4611686018427387904) (h : Lns w p ls) (hg : G w) :
    Calls Tryz.prog 4 #[.slice p ls.length c, .agg #[.string ⟨a.toArray⟩, .string ⟨s.toArray⟩, .string ⟨n.toArray⟩, .string ⟨d.toArray⟩], .agg #[.string ⟨a2.toArray⟩, .string ⟨s2.toArray⟩, .string ⟨n2.toArray⟩, .string ⟨d2.toArray⟩]] w (GiveB w true) := by
  have c1 := fun v (hv : Below w.heap.size w v) => rbsmall_any p c ls v hc hl (h.below hv)
  have c2 := fun v => small_two a s n d a2 s2 n2 d2 v
  cases h1 : smB ls with
  | false => rw [h1] at c1; exact back6_0 H p c ls a s n d a2 s2 n2 d2 w hg (Lib.hid c1)
  | true =>
  rw [h1] at c1
  cases h2 : smB [((a, s), (n, d)), ((a2, s2), (n2, d2))] with
  | false => rw [h2] at c2; exact back6_1 H p c ls a s n d a2 s2 n2 d2 w hg (Lib.hid c1) (Lib.hid c2)
  | true =>
  rw [h2] at c2
  obtain ⟨hs, h40⟩ := smB_iff.1 h1
  have hx0 : shL ((a, s), (n, d)) = true := (smB_iff.1 h2).1 _ (List.mem_cons_self ..)
  have hy0 : shL ((a2, s2), (n2, d2)) = true := (smB_iff.1 h2).1 _ (List.mem_cons_of_mem _ (List.mem_cons_self ..))
  have z : ∀ k, 100 ≤ k → ∀ x ∈ ls, SzK k x := fun k hk x hx => shL_szk (hs x hx) hk
  have zx : ∀ k, 100 ≤ k → SzK k ((a, s), (n, d)) := fun k hk => shL_szk hx0 hk
  have zy : ∀ k, 100 ≤ k → SzK k ((a2, s2), (n2, d2)) := fun k hk => shL_szk hy0 hk
  have zL : ∀ x ∈ ls, SzL x := fun x hx => (z 100 (by decide) x hx).szL (by decide)
  have sx := (zx 100 (by decide)).szL (by decide)
  have sy := (zy 100 (by decide)).szL (by decide)
  have c3 := fun v (hv : Below w.heap.size w v) => rbmay_any p c ls v hc (by omega) zL (h.below hv)
  have c4 := fun w => rbline_any a s n d w sx.1.1 sx.1.2 sx.2.1 sx.2.2
  have c5 := fun w => rbline_any a2 s2 n2 d2 w sy.1.1 sy.1.2 sy.2.1 sy.2.2
  cases hm : mayB ls with
  | false => rw [hm] at c3; exact back6_2 H p c ls a s n d a2 s2 n2 d2 w hg (Lib.hid c1) (Lib.hid c2) (Lib.hid c3)
  | true =>
  rw [hm] at c3
  cases hx : lineOk ((a, s), (n, d)) with
  | false => rw [hx] at c4; exact back6_3 H p c ls a s n d a2 s2 n2 d2 w hg (Lib.hid c1) (Lib.hid c2) (Lib.hid c3) (Lib.hid c4)
  | true =>
  rw [hx] at c4
  cases hy : lineOk ((a2, s2), (n2, d2)) with
  | false => rw [hy] at c5; exact back6_4 H p c ls a s n d a2 s2 n2 d2 w hg (Lib.hid c1) (Lib.hid c2) (Lib.hid c3) (Lib.hid c4) (Lib.hid c5)
  | true =>
  rw [hy] at c5
  have gl := good_iff.1 hm
  obtain ⟨M, eM, gM⟩ := add_is gl hx
  obtain ⟨M2, eM2, gM2⟩ := add_is gM hy
  obtain ⟨F, eF, gF⟩ := add_is gl hy
  obtain ⟨M3, eM3, gM3⟩ := add_is gF hx
  obtain rfl : M2 = M3 := add_comm gl hx hy eM eM2 eF eM3
  have eB := add_back gl hx eM
  have lM := add_len1 gl eM
  have lF := add_len1 gl eF
  have lM2 := add_len1 gM eM2
  have zM : ∀ y ∈ M, SzK 202 y := add_szk gl hx eM (z 100 (by decide)) (zx 100 (by decide)) (by decide) (by decide)
  have zF : ∀ y ∈ F, SzK 202 y := add_szk gl hy eF (z 100 (by decide)) (zy 100 (by decide)) (by decide) (by decide)
  have up : ∀ {ks : List Ln}, (∀ y ∈ ks, SzK 202 y) → ∀ y ∈ ks, SzK 1000 y := fun hk y hy => ⟨(hk y hy).1, Nat.le_trans (hk y hy).2.1 (by decide), Nat.le_trans (hk y hy).2.2 (by decide)⟩
  have hrx := lineOk_rat hx
  have hrx : isR (n, d) = true := hrx
  have zb := neg_szk (zx 100 (by decide)) hrx (by decide)
  have zb : SzK 1000 ((a, s), ((negR (n, d)).1, (negR (n, d)).2)) := ⟨zb.1, Nat.le_trans zb.2.1 (by decide), Nat.le_trans zb.2.2 (by decide)⟩
  have hla : a.length ≤ 4611686018427387904 := sx.1.1
  have hls : s.length ≤ 4611686018427387904 := sx.1.2
  have hla2 : a2.length ≤ 4611686018427387904 := sy.1.1
  have hls2 : s2.length ≤ 4611686018427387904 := sy.1.2
  have hn20 : n.length ≤ 20000 := sx.2.1
  have hd20 : d.length ≤ 20000 := sx.2.2
  have cng : ∀ w, Calls Tryz.prog 23 #[.agg #[.string ⟨n.toArray⟩, .string ⟨d.toArray⟩]] w (GiveR w ((negR (n, d)).1, (negR (n, d)).2)) := fun w => rqneg_any ⟨n.toArray⟩ ⟨d.toArray⟩ w (by rw [size_of]; omega) (by rw [size_of]; omega)
  have ca1 := fun v (hv : Below w.heap.size w v) hgv => H.add p c ls a s n d v hc (by omega) (z 1000 (by decide)) (zx 1000 (by decide)) (h.below hv) hgv
  rw [eM] at ca1
  have ca2 := fun (p : Option Addr) (c : Nat) v (hc : M.length ≤ c) (hL : Lns v p M) hgv => H.add p c M a s (negR (n, d)).1 (negR (n, d)).2 v hc (by omega) (up zM) zb hL hgv
  rw [show addB M ((a, s), ((negR (n, d)).1, (negR (n, d)).2)) = (ls, true) from eB] at ca2
  have ca3 := fun (p : Option Addr) (c : Nat) v (hc : M.length ≤ c) (hL : Lns v p M) hgv => H.add p c M a2 s2 n2 d2 v hc (by omega) (up zM) (zy 1000 (by decide)) hL hgv
  rw [eM2] at ca3
  have ca4 := fun v (hv : Below w.heap.size w v) hgv => H.add p c ls a2 s2 n2 d2 v hc (by omega) (z 1000 (by decide)) (zy 1000 (by decide)) (h.below hv) hgv
  rw [eF] at ca4
  have ca5 := fun (p : Option Addr) (c : Nat) v (hc : F.length ≤ c) (hL : Lns v p F) hgv => H.add p c F a s n d v hc (by omega) (up zF) (zx 1000 (by decide)) hL hgv
  rw [eM3] at ca5
  have cmp := fun (p : Option Addr) (c : Nat) v (hc : M.length ≤ c) (hL : Lns v p M) hgv => H.may p c M v hc (by omega) (up zM) hL hgv
  rw [good_iff.2 gM] at cmp
  have cg1 := fun v (hv : Below w.heap.size w v) hgv => H.get p c ls a2 s2 v hc (by omega) (z 1000 (by decide)) hla2 hls2 (h.below hv) hgv
  have cg2 := fun (p : Option Addr) (c : Nat) v (hc : M.length ≤ c) (hL : Lns v p M) hgv => H.get p c M a2 s2 v hc (by omega) (up zM) hla2 hls2 hL hgv
  have ct1 := fun (p : Option Addr) (c : Nat) v (hc : M.length ≤ c) (hL : Lns v p M) hgv => H.total p c M s 202 v hc (by omega) zM (Nat.le_trans (Nat.mul_le_mul_right 203 (show M.length + 1 ≤ 42 by omega)) (by decide)) hls hL hgv
  have ct2 := fun v (hv : Below w.heap.size w v) hgv => H.total p c ls s 100 v hc (by omega) (z 100 (by decide)) (by omega) hls (h.below hv) hgv
  have et : totB M s = addR (totB ls s) (n, d) := add_tot gl hx eM
  have st := tot_len hm s h40 (z 100 (by decide))
  have cat : ∀ w, Calls Tryz.prog 24 #[.agg #[.string ⟨(totB ls s).1.toArray⟩, .string ⟨(totB ls s).2.toArray⟩], .agg #[.string ⟨n.toArray⟩, .string ⟨d.toArray⟩]] w (GiveR w (totB M s)) := fun w => by
    rw [et]
    exact rqadd_any ⟨(totB ls s).1.toArray⟩ ⟨(totB ls s).2.toArray⟩ ⟨n.toArray⟩ ⟨d.toArray⟩ w (by rw [size_of]; exact st.1) (by rw [size_of]; exact st.2) (by rw [size_of]; exact hn20) (by rw [size_of]; exact hd20)
  have eg := add_get gl hx eM (a2, s2)
  have eg : getB M (a2, s2) = if (a2, s2) = (a, s) then addR (getB ls (a2, s2)) (n, d) else getB ls (a2, s2) := eg
  by_cases e1 : a = a2
  · by_cases e2 : s = s2
    · have q1 : (a == a2) = true := by rw [beq_iff_eq]; exact e1
      have q2 : (s == s2) = true := by rw [beq_iff_eq]; exact e2
      rw [if_pos (by rw [e1, e2])] at eg
      have lg := hasQ_lq gl (z 100 (by decide)) (by decide) (by decide) (a2, s2)
      have g0 := getB_rd gl (a2, s2)
      have caw : ∀ w, Calls Tryz.prog 24 #[.agg #[.string ⟨(getB ls (a2, s2)).1.toArray⟩, .string ⟨(getB ls (a2, s2)).2.toArray⟩], .agg #[.string ⟨n.toArray⟩, .string ⟨d.toArray⟩]] w (GiveR w (getB M (a2, s2))) := fun w => by
        rw [eg]
        exact rqadd_any ⟨(getB ls (a2, s2)).1.toArray⟩ ⟨(getB ls (a2, s2)).2.toArray⟩ ⟨n.toArray⟩ ⟨d.toArray⟩ w (by rw [size_of, g0]; exact Nat.le_trans lg.len1 (by decide)) (by rw [size_of, g0]; exact Nat.le_trans lg.len2 (by decide)) (by rw [size_of]; exact hn20) (by rw [size_of]; exact hd20)
      exact back6_same H p c ls a s n d a2 s2 n2 d2 M M2 F (by omega) (by omega) q1 q2 w hg h (Lib.hid c1) (Lib.hid c2) (Lib.hid c3) (Lib.hid c4) (Lib.hid c5) (Lib.hid ca1) (Lib.hid cng) (Lib.hid ca2) (Lib.hid ca3) (Lib.hid ca4) (Lib.hid ca5) (Lib.hid cmp) (Lib.hid cg1) (Lib.hid cg2) (Lib.hid ct1) (Lib.hid ct2) (Lib.hid cat) (Lib.hid caw)
    · have q1 : (a == a2) = true := by rw [beq_iff_eq]; exact e1
      rw [if_neg (fun e => e2 (congrArg Prod.snd e).symm)] at eg
      exact back6_asset H p c ls a s n d a2 s2 n2 d2 M M2 F (by omega) (by omega) (congrArg Prod.fst eg.symm) (congrArg Prod.snd eg.symm) q1 (beq_false_of_ne e2) w hg h (Lib.hid c1) (Lib.hid c2) (Lib.hid c3) (Lib.hid c4) (Lib.hid c5) (Lib.hid ca1) (Lib.hid cng) (Lib.hid ca2) (Lib.hid ca3) (Lib.hid ca4) (Lib.hid ca5) (Lib.hid cmp) (Lib.hid cg1) (Lib.hid cg2) (Lib.hid ct1) (Lib.hid ct2) (Lib.hid cat)
  · rw [if_neg (fun e => e1 (congrArg Prod.fst e).symm)] at eg
    exact back6_acct H p c ls a s n d a2 s2 n2 d2 M M2 F (by omega) (by omega) (congrArg Prod.fst eg.symm) (congrArg Prod.snd eg.symm) (beq_false_of_ne e1) w hg h (Lib.hid c1) (Lib.hid c2) (Lib.hid c3) (Lib.hid c4) (Lib.hid c5) (Lib.hid ca1) (Lib.hid cng) (Lib.hid ca2) (Lib.hid ca3) (Lib.hid ca4) (Lib.hid ca5) (Lib.hid cmp) (Lib.hid cg1) (Lib.hid cg2) (Lib.hid ct1) (Lib.hid ct2) (Lib.hid cat)
end Go.Proofs.YtemnimbedmkagaaGreatDoor
