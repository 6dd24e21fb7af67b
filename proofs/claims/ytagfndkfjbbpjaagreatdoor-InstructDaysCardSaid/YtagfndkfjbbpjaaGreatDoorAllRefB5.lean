/- The holders of an asset: a row that grows. -/
import Derived.OwnWalk
import Derived.Laws.AppendOwn
import Derived.Laws.OwnMore
import Derived.Test.YtagfndkfjbbpjaaGreatDoorAllRefB4
namespace Go.Proofs.YtagfndkfjbbpjaaGreatDoor
open Go.RowKit
set_option linter.unusedSimpArgs false
set_option linter.unusedVariables false
def cellsL (ls : List Ln) : List Value := ls.flatMap fun x => [.string ⟨x.1.1.toArray⟩, .string ⟨x.1.2.toArray⟩, .string ⟨x.2.1.toArray⟩, .string ⟨x.2.2.toArray⟩]
theorem cellsL_cons (x : Ln) (r : List Ln) : cellsL (x :: r) = .string ⟨x.1.1.toArray⟩ :: .string ⟨x.1.2.toArray⟩ :: .string ⟨x.2.1.toArray⟩ :: .string ⟨x.2.2.toArray⟩ :: cellsL r := rfl
theorem cellsL_append (l m : List Ln) : cellsL (l ++ m) = cellsL l ++ cellsL m := List.flatMap_append
theorem cellsL_snoc (l : List Ln) (a s n d : List UInt8) : cellsL l ++ [.string ⟨a.toArray⟩, .string ⟨s.toArray⟩, .string ⟨n.toArray⟩, .string ⟨d.toArray⟩] = cellsL (l ++ [((a, s), (n, d))]) := by rw [cellsL_append]; rfl
theorem cellsL_len : ∀ l : List Ln, (cellsL l).length = l.length * 4
 | [] => rfl
 | x :: r => by
  rw [cellsL_cons]
  simp only [List.length_cons]
  rw [cellsL_len r]
  omega
theorem cellsL_get : ∀ {l : List Ln} {j : Nat} {x : Ln}, l[j]? = some x → (cellsL l)[j * 4]? = some (.string ⟨x.1.1.toArray⟩) ∧ (cellsL l)[j * 4 + 1]? = some (.string ⟨x.1.2.toArray⟩) ∧ (cellsL l)[j * 4 + 2]? = some (.string ⟨x.2.1.toArray⟩) ∧ (cellsL l)[j * 4 + 3]? = some (.string ⟨x.2.2.toArray⟩)
 | [], _, _, h => by cases h
 | y :: r, 0, x, h => by
  obtain rfl : y = x := Option.some.inj h
  rw [cellsL_cons]
  exact ⟨rfl, rfl, rfl, rfl⟩
 | y :: r, j + 1, x, h => by
  have k := cellsL_get (l := r) (j := j) (x := x) h
  rw [cellsL_cons, show (j + 1) * 4 = j * 4 + 4 by omega]
  exact k
abbrev Own (B : Nat) (w : World) (v : Value) (ls : List Ln) : Prop := w.ownsRow B 46 4 v ls.length (cellsL ls)
theorem own_snoc {B : Nat} {w : World} {v : Value} {fs : List Ln} {a s n d : List UInt8} (h : w.ownsRow B 46 4 v (fs.length + 1) (cellsL fs ++ [.string ⟨a.toArray⟩, .string ⟨s.toArray⟩, .string ⟨n.toArray⟩, .string ⟨d.toArray⟩])) : Own B w v (fs ++ [((a, s), (n, d))]) := by
 rw [cellsL_snoc] at h
 have e : (fs ++ [((a, s), (n, d))]).length = fs.length + 1 := List.length_append
 show w.ownsRow B 46 4 v (fs ++ [((a, s), (n, d))]).length _
 rw [e]; exact h
theorem own_below {B : Nat} {w w' : World} {v : Value} {ls : List Ln} (h : Own B w v ls) (hb : Below w.heap.size w w') : Own B w' v ls := by
 refine ⟨h.1, ?_⟩
 rcases h.2 with k | ⟨g, cap, cur, k1, k2, k3, k4⟩
 ·exact .inl k
 ·refine .inr ⟨g, cap, cur, k1, k2, ?_, k4⟩
  have hl : g < w.heap.size := by
   cases e : w.heap[g]? with
   | none => rw [e] at k3; cases k3
   | some o => exact (Array.getElem?_eq_some_iff.1 e).1
  rw [hb.block g hl]; exact k3
theorem own_lns {B : Nat} {w : World} {v : Value} {ls : List Ln} (h : Own B w v ls) : ∃ p c, v = .slice p ls.length c ∧ ls.length ≤ c ∧ Lns w p ls ∧ (∀ a, p = some a → B ≤ a.block) := by
 rcases h.2 with ⟨rfl, h0⟩ | ⟨g, cap, cur, rfl, k2, k3, k4, k5⟩
 ·have : ls = [] := List.length_eq_zero_iff.1 h0
  subst this
  exact ⟨none, 0, rfl, Nat.le_refl _, Lns.nil _ _, fun _ h => by cases h⟩
 ·refine ⟨some ⟨g, 0, none⟩, cap, rfl, k4, fun j x hx => ?_, fun a h => by cases h; exact k2⟩
  have hj := (List.getElem?_eq_some_iff.1 hx).1
  obtain ⟨c0, c1, c2, c3⟩ := cellsL_get hx
  have hl : g < w.heap.size := by
   cases e : w.heap[g]? with
   | none => rw [e] at k3; cases k3
   | some o => exact (Array.getElem?_eq_some_iff.1 e).1
  have hg : World.ownsRow w B 46 4 (.slice (some ⟨g, 0, none⟩) ls.length cap) ls.length (cellsL ls) := h
  refine ⟨g, 0, rfl, hl, ?_, ?_, ?_, ?_⟩
  ·rw [Nat.zero_add, hg.cellAt (j * 4) (by omega)]; exact c0
  ·rw [Nat.zero_add, hg.cellAt (j * 4 + 1) (by omega)]; exact c1
  ·rw [Nat.zero_add, hg.cellAt (j * 4 + 2) (by omega)]; exact c2
  ·rw [Nat.zero_add, hg.cellAt (j * 4 + 3) (by omega)]; exact c3
def GiveL (w : World) (ls : List Ln) (e : Ending) (w' : World) : Prop := (∃ p c, e = .returned (.slice p ls.length c) ∧ ls.length ≤ c ∧ Lns w' p ls ∧ (∀ a, p = some a → w.heap.size ≤ a.block)) ∧ Below w.heap.size w w'
theorem giveL {w w' : World} {v : Value} {ls : List Ln} (h : Own w.heap.size w' v ls) (hb : Below w.heap.size w w') : GiveL w ls (.returned v) w' := by
 obtain ⟨p, c, rfl, hc, hl, hf⟩ := own_lns h
 exact ⟨⟨p, c, rfl, hc, hl, hf⟩, hb⟩
theorem cell_four (w : World) (a b c d : Value) (t : TypeId) : ∀ (j : Nat) (u : Value), [a, b, c, d][j]? = some u → (w.alloc (.cells #[a, b, c, d] t)).cell? ((⟨w.heap.size, 0, none⟩ : Addr).add j) = some u := fun j u h => by
 have e : ((⟨w.heap.size, 0, none⟩ : Addr).add j) = ⟨w.heap.size, j, none⟩ := by rw [Addr.add_lit, Nat.zero_add]
 rw [e, cell_new _ _ _ _ rfl]
 rw [← h]
 exact (List.getElem?_toArray ..)
theorem lnInfo : (Tryz.prog.info? 46).map (fun i => (i.zero, i.size, i.bytes)) = some (some (.agg #[.string ⟨#[]⟩, .string ⟨#[]⟩, .string ⟨#[]⟩, .string ⟨#[]⟩]), 4, 64) := by kernel_rfl
theorem take_more {ls : List Ln} {k : Nat} {x : Ln} (f : Ln → Bool) (hx : ls[k]? = some x) : (ls.take (k + 1)).filter f = (ls.take k).filter f ++ (if f x then [x] else []) := by
 rw [List.take_add_one, hx, List.filter_append]
 congr 1
 show List.filter f [x] = _
 cases e : f x <;> simp [e]
set_option maxRecDepth 100000 in
set_option maxHeartbeats 4000000 in
theorem rbh_no (p : Option Addr) (c : Nat) (ls : List Ln) (u : List UInt8) (w : World) (hc : ls.length ≤ c) (hl : ls.length ≤ 1000000) (h : Lns w p ls)
  (CM : Hid (∀ v, Below w.heap.size w v → Calls Tryz.prog 22 #[.slice p ls.length c] v (GiveB v false))) :
  Calls Tryz.prog 49 #[.slice p ls.length c, .string ⟨u.toArray⟩] w (GiveL w []) := by
 have HS := Lib.hid h; clear h
 obtain ⟨i0, hi, hz0, hz1, hz2⟩ := info_parts lnInfo
 go_enter Tryz.func49, Tryz.ntmps49
 go_wp2
 go_loopw [5, 6] (fun out i wr => i = .int .i64 0 ∧ Own w.heap.size wr out [] ∧ Below w.heap.size w wr) (fun _ i _ => 0)
 case atStart => exact ⟨rfl, World.ownsRow_lit _ #[] 0 (Nat.le_refl _) (by decide) rfl, (Below.refl _ _).alloc (Nat.le_refl _) _⟩
 case round =>
  obtain ⟨rfl, hown, hbw⟩ := hrel
  have hO := Lib.hid hown; have hW := Lib.hid hbw
  by_cases hlt : (0 : Int) < (ls.length : Int)
  ·clear hown hbw
   go_wp2_with fail
   refine (CM.out _ hW.out).mono ?_
   rintro e w1 ⟨rfl, b⟩
   have hO1 := Lib.hid (own_below hO.out b)
   have hW1 := Lib.hid (Below.more hW.out b)
   clear b
   go_wp2_with fail
   go_ret
   exact giveL hO1.out hW1.out
  ·clear hown hbw
   go_wp2_with fail
   go_ret
   exact giveL hO.out hW.out
set_option maxRecDepth 100000 in
set_option maxHeartbeats 4000000 in
theorem rbh_yes (p : Option Addr) (c : Nat) (ls : List Ln) (u : List UInt8) (w : World) (hc : ls.length ≤ c) (hl : ls.length ≤ 1000000) (h : Lns w p ls)
  (CM : Hid (∀ v, Below w.heap.size w v → Calls Tryz.prog 22 #[.slice p ls.length c] v (GiveB v true))) :
  Calls Tryz.prog 49 #[.slice p ls.length c, .string ⟨u.toArray⟩] w (GiveL w (ls.filter fun x => x.1.2 == u)) := by
 have HS := Lib.hid h; clear h
 obtain ⟨i0, hi, hz0, hz1, hz2⟩ := info_parts lnInfo
 go_enter Tryz.func49, Tryz.ntmps49
 go_wp2
 go_loopw [5, 6] (fun out i wr => ∃ (k : Nat) (fs : List Ln), k ≤ ls.length ∧ i = .int .i64 k ∧ Own w.heap.size wr out fs ∧ Below w.heap.size w wr ∧ Hid (fs = (ls.take k).filter fun x => x.1.2 == u)) (fun _ i _ => ls.length - (intOf i).toNat)
 case atStart => exact ⟨0, [], Nat.zero_le _, rfl, World.ownsRow_lit _ #[] 0 (Nat.le_refl _) (by decide) rfl, (Below.refl _ _).alloc (Nat.le_refl _) _, rfl⟩
 case round =>
  obtain ⟨k, fs, hk, rfl, hown, hbw, HF⟩ := hrel
  by_cases hlt : k < ls.length
  ·obtain ⟨⟨⟨a, s⟩, ⟨n, d⟩⟩, hx⟩ : ∃ x, ls[k]? = some x := ⟨_, List.getElem?_eq_getElem hlt⟩
   obtain ⟨b, o, rfl, k0, k1, k2, k3⟩ := (HS.out.below hbw).rule hx
   have hfl : fs.length ≤ 1000000 := by
    rw [HF.out]
    exact Nat.le_trans (List.length_filter_le _ _) (by rw [List.length_take]; omega)
   have hcm := CM.out _ hbw
   have b0 := Below.refl wr.heap.size wr
   have hlt' : (k : Int) < (ls.length : Int) := by omega
   have hO := Lib.hid hown; have hW := Lib.hid hbw
   have CMr := Lib.hid hcm
   clear hown hbw hcm
   cases e0 : (s == u) with
   | false =>
    have HT : Hid (fs = (ls.take (k + 1)).filter fun x => x.1.2 == u) := Lib.hid (by rw [take_more _ hx, ← HF.out]; show fs = fs ++ (if s == u then _ else []); rw [e0]; exact (List.append_nil _).symm)
    clear hx
    go_wp2_with fail
    refine (CMr.out).mono ?_
    rintro e w1 ⟨rfl, b⟩
    have hO1 := Lib.hid (own_below hO.out b)
    have hW1 := Lib.hid (Below.more hW.out b)
    have b1 := Below.more b0 b
    clear b
    go_wp2_with fail
    go_roundw
    case rel => exact ⟨k + 1, fs, hlt, by go_num, hO1.out, hW1.out, HT.out⟩
    case measure => simp [intOf]; omega
   | true =>
    have HT : Hid (fs ++ [((a, s), (n, d))] = (ls.take (k + 1)).filter fun x => x.1.2 == u) := Lib.hid (by rw [take_more _ hx, ← HF.out]; show _ = fs ++ (if s == u then _ else []); rw [e0]; rfl)
    clear hx
    go_wp2_with fail
    refine (CMr.out).mono ?_
    rintro e w1 ⟨rfl, b⟩
    have hO1 := own_below hO.out b
    have hW1 := Below.more hW.out b
    have b1 := Below.more b0 b
    clear b
    go_wp2_with (first
     | (at_builtin; refine wpList_append_own _ rfl _ _ 22 rfl w.heap.size 46 i0 (.agg #[.string ⟨#[]⟩, .string ⟨#[]⟩, .string ⟨#[]⟩, .string ⟨#[]⟩]) 4 64 Tryz.underlying22 hi hz0 hz1 hz2 rfl (by decide) _ _ _ rfl (World.ownsRow.alloc hO1 _) ⟨w1.heap.size, 0, none⟩ 1 1 [.string ⟨a.toArray⟩, .string ⟨s.toArray⟩, .string ⟨n.toArray⟩, .string ⟨d.toArray⟩] rfl rfl (cell_four _ _ _ _ _ _) (fun x hx => by simp at hx; rcases hx with rfl | rfl | rfl | rfl <;> rfl) (by unfold maxLen; omega) (by omega) (by have := Below.size hW1; simp; omega) ?_; intro v' w3 hown' hgrow' hnil'; have hbw' : Below w.heap.size w w3 := Below.grown (Below.alloc hW1 (Below.size hW1) _) hgrow' (by have := Below.size hW1; simp; omega) (fun j hj => (World.ownsRow.lt hO1 _ hj).1); have X : Hid (Own w.heap.size w3 v' (fs ++ [((a, s), (n, d))]) ∧ Below w.heap.size w w3) := Lib.hid ⟨own_snoc hown', hbw'⟩; clear hown' hgrow' hnil' hbw'))
    go_roundw
    case rel => exact ⟨k + 1, _, hlt, by go_num, X.out.1, X.out.2, HT.out⟩
    case measure => simp [intOf]; omega
  ·obtain rfl : k = ls.length := by omega
   have HF2 : Hid (fs = ls.filter fun x => x.1.2 == u) := Lib.hid (by rw [HF.out, List.take_length])
   have hO := Lib.hid hown; have hW := Lib.hid hbw
   clear hown hbw
   go_wp2_with fail
   go_ret
   rw [← HF2.out]
   exact giveL hO.out hW.out
theorem rbholders_any (p : Option Addr) (c : Nat) (ls : List Ln) (u : List UInt8) (w : World) (hc : ls.length ≤ c) (hl : ls.length ≤ 1000000) (hz : ∀ x ∈ ls, SzL x) (h : Lns w p ls) :
  Calls Tryz.prog 49 #[.slice p ls.length c, .string ⟨u.toArray⟩] w (GiveL w (holdB ls u)) := by
 have cm := fun v (hv : Below w.heap.size w v) => rbmay_any p c ls v hc (by omega) hz (h.below hv)
 unfold holdB
 cases hm : mayB ls with
 | false => rw [hm] at cm; exact rbh_no p c ls u w hc hl h (Lib.hid cm)
 | true => rw [hm] at cm; exact rbh_yes p c ls u w hc hl h (Lib.hid cm)
end Go.Proofs.YtagfndkfjbbpjaaGreatDoor
