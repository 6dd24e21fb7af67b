/- What an account has; the lines of an asset. -/
import Derived.Test.YtemnimbedmkagaaGreatDoorAllRefB7
import Derived.Test.YtemnimbedmkagaaGreatDoorAllBk3
namespace Go.Proofs.YtemnimbedmkagaaGreatDoor
open Go.RowKit
set_option linter.unusedSimpArgs false
set_option linter.unusedVariables false
set_option maxRecDepth 100000 in
set_option maxHeartbeats 4000000 in
theorem bg_no (p : Option Addr) (c : Nat) (ls : List Ln) (u v : List UInt8) (w : World)
    (CM : Hid (∀ V, Below w.heap.size w V → Calls Tryz.prog 12 #[.slice p ls.length c] V (GiveB V false))) :
    Calls Tryz.prog 16 #[.slice p ls.length c, .string ⟨u.toArray⟩, .string ⟨v.toArray⟩] w (GiveR w ([], [])) := by
  go_enter Tryz.func16, Tryz.ntmps16
  go_wp2_with fail
  obtain ⟨W, hW, BW, sW, r0, r1, r2, r3⟩ := box0z w (.string ⟨#[]⟩) (.string ⟨#[]⟩) 25
  rw [hW]; clear hW
  have b0 := Below.refl W.heap.size W
  refine (CM.out _ BW).mono ?_
  rintro e w1 ⟨rfl, b⟩
  have b1 := Below.more b0 b
  clear b
  go_wp2_with fail
  refine bodyPost_ret (v := .agg #[.string ⟨#[]⟩, .string ⟨#[]⟩]) (by simp [results, Tryz.results16, go_sem, *]) rfl ⟨rfl, ?_⟩
  exact put2 (Below.more BW b1) (Nat.le_refl _) _ _
set_option maxRecDepth 100000 in
set_option maxHeartbeats 4000000 in
theorem bg_out (p : Option Addr) (c : Nat) (ls : List Ln) (u v : List UInt8) (w : World) (r : Nat)
    (CM : Hid (∀ V, Below w.heap.size w V → Calls Tryz.prog 12 #[.slice p ls.length c] V (GiveB V true)))
    (CF : Hid (∀ V, Below w.heap.size w V → Calls Tryz.prog 29 #[.slice p ls.length c, .agg #[.string ⟨u.toArray⟩, .string ⟨v.toArray⟩, .string ⟨#[]⟩, .string ⟨#[]⟩]] V (GivePB V r false)))
    (CO : Hid (∀ V, Below w.heap.size w V → Calls Tryz.prog 37 #[.int .i64 0] V (GiveR V ([48], [49])))) :
    Calls Tryz.prog 16 #[.slice p ls.length c, .string ⟨u.toArray⟩, .string ⟨v.toArray⟩] w (GiveR w ([48], [49])) := by
  go_enter Tryz.func16, Tryz.ntmps16
  go_wp2_with fail
  obtain ⟨W, hW, BW, sW, r0, r1, r2, r3⟩ := box0z w (.string ⟨#[]⟩) (.string ⟨#[]⟩) 25
  rw [hW]; clear hW
  have b0 := Below.refl W.heap.size W
  refine (CM.out _ BW).mono ?_
  rintro e w1 ⟨rfl, b⟩
  have b1 := Below.more b0 b
  clear b
  go_wp2_with fail
  refine (CF.out _ (Below.more BW b1)).mono ?_
  rintro e w2 ⟨rfl, b⟩
  have b2 := Below.more b1 b
  clear b
  go_wp2_with fail
  refine (CO.out _ (Below.more BW b2)).mono ?_
  rintro e w3 ⟨rfl, b⟩
  have b3 := Below.more b2 b
  clear b
  go_wp2_with fail
  refine bodyPost_ret (v := .agg #[.string ⟨#[48]⟩, .string ⟨#[49]⟩]) (by simp [results, Tryz.results16, go_sem, *]) rfl ⟨rfl, ?_⟩
  exact put2 (Below.more BW b3) (Nat.le_refl _) _ _
set_option maxRecDepth 100000 in
set_option maxHeartbeats 4000000 in
theorem bg_in (p : Option Addr) (c : Nat) (ls : List Ln) (u v : List UInt8) (w : World) (r : Nat) (a s n d : List UInt8) (hc : ls.length ≤ c) (hl : ls.length ≤ 1000000) (h : Lns w p ls) (hx : ls[r]? = some ((a, s), (n, d)))
    (CM : Hid (∀ V, Below w.heap.size w V → Calls Tryz.prog 12 #[.slice p ls.length c] V (GiveB V true)))
    (CF : Hid (∀ V, Below w.heap.size w V → Calls Tryz.prog 29 #[.slice p ls.length c, .agg #[.string ⟨u.toArray⟩, .string ⟨v.toArray⟩, .string ⟨#[]⟩, .string ⟨#[]⟩]] V (GivePB V r true))) :
    Calls Tryz.prog 16 #[.slice p ls.length c, .string ⟨u.toArray⟩, .string ⟨v.toArray⟩] w (GiveR w (n, d)) := by
  have hr : (r : Int) < (ls.length : Int) := by have := (List.getElem?_eq_some_iff.1 hx).1; omega
  obtain ⟨b, o, rfl, k0, k1, k2, k3⟩ := h.rule hx
  clear h hx k0 k1
  go_enter Tryz.func16, Tryz.ntmps16
  go_wp2_with fail
  obtain ⟨W, hW, BW, sW, r0, r1, r2, r3⟩ := box0z w (.string ⟨#[]⟩) (.string ⟨#[]⟩) 25
  rw [hW]; clear hW
  have b0 := Below.refl W.heap.size W
  refine (CM.out _ BW).mono ?_
  rintro e w1 ⟨rfl, b⟩
  have b1 := Below.more b0 b
  clear b
  go_wp2_with fail
  refine (CF.out _ (Below.more BW b1)).mono ?_
  rintro e w2 ⟨rfl, b⟩
  have b2 := Below.more b1 b
  clear b
  have k4 := fun v (h : Below W.heap.size W v) => k2 v (Below.more BW h)
  have k5 := fun v (h : Below W.heap.size W v) => k3 v (Below.more BW h)
  go_wp2_with fail
  refine bodyPost_ret (v := .agg #[.string ⟨n.toArray⟩, .string ⟨d.toArray⟩]) (by simp [results, Tryz.results16, go_sem, *]) rfl ⟨rfl, ?_⟩
  exact put2 (Below.more BW b2) (Nat.le_refl _) _ _
def Stop4 (p : Prop) : Prop := p
theorem stop {p : Prop} (h : Stop4 p) : p := h
theorem cell_four1 (w : World) (X : Obj) (a b c d : Value) (t : TypeId) : ∀ (j : Nat) (u : Value), [a, b, c, d][j]? = some u → ((w.alloc X).alloc (.cells #[a, b, c, d] t)).cell? ((⟨w.heap.size + 1, 0, none⟩ : Addr).add j) = some u := fun j u h => by
  have k := cell_four (w.alloc X) a b c d t j u h
  rw [show (w.alloc X).heap.size = w.heap.size + 1 by simp] at k
  exact k
set_option maxRecDepth 100000 in
set_option maxHeartbeats 4000000 in
theorem bof_any (p : Option Addr) (c : Nat) (ls : List Ln) (u : List UInt8) (w : World) (hc : ls.length ≤ c) (hl : ls.length ≤ 1000000) (h : Lns w p ls) :
    Calls Tryz.prog 39 #[.slice p ls.length c, .string ⟨u.toArray⟩] w (GiveL w (ls.filter fun x => x.1.2 == u)) := by
  have HS := Lib.hid h; clear h
  obtain ⟨i0, hi, hz0, hz1, hz2⟩ := info_parts lnInfo
  go_enter Tryz.func39, Tryz.ntmps39
  go_wp2
  go_loopw [5, 10] (fun out i wr => ∃ (k : Nat) (fs : List Ln), k ≤ ls.length ∧ i = .int .i64 k ∧ Own w.heap.size wr out fs ∧ Below w.heap.size w wr ∧ Hid (fs = (ls.take k).filter fun x => x.1.2 == u)) (fun _ i _ => ls.length - (intOf i).toNat)
  case atStart => exact ⟨0, [], Nat.zero_le _, rfl, World.ownsRow_nil _ _ _ _, Below.refl _ _, rfl⟩
  case round =>
    obtain ⟨k, fs, hk, rfl, hown, hbw, HF⟩ := hrel
    by_cases hlt : k < ls.length
    · obtain ⟨⟨⟨a, s⟩, ⟨n, d⟩⟩, hx⟩ : ∃ x, ls[k]? = some x := ⟨_, List.getElem?_eq_getElem hlt⟩
      obtain ⟨b, o, rfl, k0, k1, k2, k3⟩ := (HS.out.below hbw).rule hx
      have hfl : fs.length ≤ 1000000 := by
        rw [HF.out]
        exact Nat.le_trans (List.length_filter_le _ _) (by rw [List.length_take]; omega)
      have b0 := Below.refl wr.heap.size wr
      have hlt' : (k : Int) < (ls.length : Int) := by omega
      have hO := Lib.hid hown; have hW := Lib.hid hbw
      clear hown hbw
      cases e0 : (s == u) with
      | false =>
        have HT : Hid (fs = (ls.take (k + 1)).filter fun x => x.1.2 == u) := Lib.hid (by rw [take_more _ hx, ← HF.out]; show fs = fs ++ (if s == u then _ else []); rw [e0]; exact (List.append_nil _).symm)
        clear hx
        go_upto_region 5 with fail
        obtain ⟨U, hU, bU, s1, r0, r1, r2, r3⟩ := lay4 b0 (.string ⟨a.toArray⟩) (.string ⟨s.toArray⟩) (.string ⟨n.toArray⟩) (.string ⟨d.toArray⟩) 27
        rw [hU]
        have hO1 : Hid (Own w.heap.size U u5 fs) := Lib.hid (hU ▸ World.ownsRow.alloc hO.out _)
        clear hU s1 k0 k1 k2 k3 b0
        have HW := Lib.hid (Below.more hW.out bU)
        have b1 := Below.refl U.heap.size U
        clear bU
        go_wp2_with fail
        go_roundw
        case rel => exact ⟨k + 1, fs, hlt, by go_num, hO1.out, HW.out, HT.out⟩
        case measure => simp [intOf]; omega
      | true =>
        have HT : Hid (fs ++ [((a, s), (n, d))] = (ls.take (k + 1)).filter fun x => x.1.2 == u) := Lib.hid (by rw [take_more _ hx, ← HF.out]; show _ = fs ++ (if s == u then _ else []); rw [e0]; rfl)
        clear hx
        go_upto_region 5 with fail
        obtain ⟨U, hU, bU, s1, r0, r1, r2, r3⟩ := lay4 b0 (.string ⟨a.toArray⟩) (.string ⟨s.toArray⟩) (.string ⟨n.toArray⟩) (.string ⟨d.toArray⟩) 27
        rw [hU]
        have hO1 : Own w.heap.size U u5 fs := hU ▸ World.ownsRow.alloc hO.out _
        clear hU s1 k0 k1 k2 k3 b0
        have hW1 := Below.more hW.out bU
        have b1 := Below.refl U.heap.size U
        clear bU
        go_wp2_with (first
          | (at_builtin; refine wpList_append_own _ rfl _ _ 22 rfl w.heap.size 27 i0 (.agg #[.string ⟨#[]⟩, .string ⟨#[]⟩, .string ⟨#[]⟩, .string ⟨#[]⟩]) 4 64 Tryz.underlying22 hi hz0 hz1 hz2 rfl (by decide) _ _ _ rfl (World.ownsRow.alloc hO1 _) ⟨U.heap.size, 0, none⟩ 1 1 [.string ⟨a.toArray⟩, .string ⟨s.toArray⟩, .string ⟨n.toArray⟩, .string ⟨d.toArray⟩] rfl rfl (cell_four _ _ _ _ _ _) (fun x hx => by simp at hx; rcases hx with rfl | rfl | rfl | rfl <;> rfl) (by unfold maxLen; omega) (by omega) (by have := Below.size hW1; simp; omega) ?_; intro v' w3 hown' hgrow' hnil'; have hbw' : Below w.heap.size w w3 := Below.grown (Below.alloc hW1 (Below.size hW1) _) hgrow' (by have := Below.size hW1; simp; omega) (fun j hj => (World.ownsRow.lt hO1 _ hj).1); have X : Hid (Own w.heap.size w3 v' (fs ++ [((a, s), (n, d))]) ∧ Below w.heap.size w w3) := Lib.hid ⟨own_snoc hown', hbw'⟩; clear hown' hgrow' hnil' hbw'))
        go_roundw
        case rel => exact ⟨k + 1, _, hlt, by go_num, X.out.1, X.out.2, HT.out⟩
        case measure => simp [intOf]; omega
    · obtain rfl : k = ls.length := by omega
      have HF2 : Hid (fs = ls.filter fun x => x.1.2 == u) := Lib.hid (by rw [HF.out, List.take_length])
      have hO := Lib.hid hown; have hW := Lib.hid hbw
      clear hown hbw
      go_wp2_with fail
      go_ret
      rw [← HF2.out]
      exact giveL hO.out hW.out
end Go.Proofs.YtemnimbedmkagaaGreatDoor
