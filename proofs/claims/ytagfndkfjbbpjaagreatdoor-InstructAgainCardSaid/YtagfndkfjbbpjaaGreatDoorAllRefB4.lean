/- Whether rows of lines are the same; what a book has of an account and asset. -/
import Derived.Test.YtagfndkfjbbpjaaGreatDoorSch
import Derived.Test.YtagfndkfjbbpjaaGreatDoorAllRefB3
namespace Go.Proofs.YtagfndkfjbbpjaaGreatDoor
open Go.RowKit
set_option linter.unusedSimpArgs false
set_option linter.unusedVariables false
theorem same_stop {ls ms : List Ln} {k : Nat} {x y : Ln} (hx : ls[k]? = some x) (hy : ms[k]? = some y) (h : x ≠ y) : (ls == ms) = false := beq_false_of_ne fun e => by
 subst e; rw [hx] at hy; exact h (Option.some.inj hy)
theorem same_end {ls ms : List Ln} (hl : ls.length = ms.length) (h : ∀ (j : Nat) (x : Ln), j < ls.length → ls[j]? = some x → ms[j]? = some x) : (ls == ms) = true := by
 rw [beq_iff_eq]
 refine List.ext_getElem hl fun i h1 h2 => ?_
 have := h i ls[i] h1 (List.getElem?_eq_getElem h1)
 rw [List.getElem?_eq_getElem h2] at this
 exact (Option.some.inj this).symm
theorem moreJ {ls : List Ln} {P : Nat → Ln → Prop} {k : Nat} {z : Ln} (h : ∀ (j : Nat) (x : Ln), j < k → ls[j]? = some x → P j x) (hz : ls[k]? = some z) (hp : P k z) : ∀ (j : Nat) (x : Ln), j < k + 1 → ls[j]? = some x → P j x := fun j x hj hx => by
 by_cases e : j = k
 ·subst e
  rw [hz] at hx
  exact Option.some.inj hx ▸ hp
 ·exact h j x (by omega) hx
theorem lineOf_at {ls : List Ln} {k : Key} {j : Nat} {x : Ln} (hx : ls[j]? = some x) (hk : x.1 = k) (h : ∀ (i : Nat) (y : Ln), i < j → ls[i]? = some y → (y.1 == k) = false) : lineOf ls k = some x := by
 obtain ⟨hj, e⟩ := List.getElem?_eq_some_iff.1 hx
 unfold lineOf
 rw [List.find?_eq_some_iff_getElem]
 refine ⟨by simpa using hk, j, hj, e, fun i hi => ?_⟩
 have := h i ls[i] hi (List.getElem?_eq_getElem (by omega))
 simpa using this
theorem lineOf_no {ls : List Ln} {k : Key} (h : ∀ (i : Nat) (y : Ln), i < ls.length → ls[i]? = some y → (y.1 == k) = false) : lineOf ls k = none := of_none fun x hx => by
 obtain ⟨i, hi, rfl⟩ := List.getElem_of_mem hx
 exact ne_of_beq_false (h i _ hi (List.getElem?_eq_getElem hi))
set_option maxRecDepth 100000 in
set_option maxHeartbeats 4000000 in
theorem rbsame_any (p q : Option Addr) (c c' : Nat) (ls ms : List Ln) (w : World) (hl : ls.length ≤ 4611686018427387904) (hl' : ms.length ≤ 4611686018427387904) (h : Lns w p ls) (h' : Lns w q ms) :
  Calls Tryz.prog 13 #[.slice p ls.length c, .slice q ms.length c'] w (GiveB w (ls == ms)) := by
 have HS := Lib.hid h; have HS' := Lib.hid h'; clear h h'
 by_cases hne : ls.length = ms.length
 ·go_enter Tryz.func13, Tryz.ntmps13
  go_wp2
  go_loopw [5] (fun i wr => ∃ k : Nat, k ≤ ls.length ∧ i = .int .i64 k ∧ Hid (∀ (j : Nat) (x : Ln), j < k → ls[j]? = some x → ms[j]? = some x) ∧ Below w.heap.size w wr) (fun i _ => ls.length - (intOf i).toNat)
  case atStart => exact ⟨0, Nat.zero_le _, rfl, fun j x h => absurd h (Nat.not_lt_zero j), Below.refl _ _⟩
  case round =>
   obtain ⟨k, hk, rfl, HJ, hw⟩ := hrel
   by_cases hlt : k < ls.length
   ·obtain ⟨⟨⟨a, s⟩, ⟨n, d⟩⟩, hx⟩ : ∃ x, ls[k]? = some x := ⟨_, List.getElem?_eq_getElem hlt⟩
    obtain ⟨⟨⟨a', s'⟩, ⟨n', d'⟩⟩, hy⟩ : ∃ x, ms[k]? = some x := ⟨_, List.getElem?_eq_getElem (hne ▸ hlt)⟩
    obtain ⟨b, o, rfl, k0, k1, k2, k3⟩ := (HS.out.below hw).rule hx
    obtain ⟨b', o', rfl, j0, j1, j2, j3⟩ := (HS'.out.below hw).rule hy
    have HW := Lib.hid hw
    have hlt' : (k : Int) < (ms.length : Int) := by omega
    have b0 := Below.refl wr.heap.size wr
    have HX := Lib.hid hx; have HY := Lib.hid hy
    clear hx hy hw
    have hB := Lib.hid (Nat.le_refl wr.heap.size)
    by_cases e0 : a = a'
    ·by_cases e1 : s = s'
     ·by_cases e2 : n = n'
      ·by_cases e3 : d = d'
       ·have HO : Hid (ms[k]? = some ((a, s), (n, d))) := Lib.hid (by subst e0 e1 e2 e3; exact HY.out)
        have q0 : (a == a') = true := by rw [beq_iff_eq]; assumption
        have q1 : (s == s') = true := by rw [beq_iff_eq]; assumption
        have q2 : (n == n') = true := by rw [beq_iff_eq]; assumption
        have q3 : (d == d') = true := by rw [beq_iff_eq]; assumption
        clear e0 e1 e2 e3
        go_wp2_with fail
        refine wp_region_noPanic ?_
        refine wp_region_held_drew (S := fun w' => Below wr.heap.size wr w') (by kernel_rfl) (b0.drew) (fun hH0 => ?_)
        refine sch_in [0, 1, 2, 3, 4, 5, 6, 7, 8] ?_
        iterate 9 (refine sch_yes (v := ?_) rfl (by kernel_rfl) (by rfl) ?_ (by assumption) ?_; rotate_left 1; (· (intro w hSw; (try dsimp only at hSw); go_simp <;> (with_reducible rfl))); try simp only [Act.put, qA, qB, qC, qD, qE, qF])
        refine sch_out ?_
        refine wpAnyH_done (by kernel_rfl) ?_ _
        refine NoPanic.normal ?_
        have b9 := hH0
        clear hH0
        go_wp2_with fail
        go_roundw
        case rel => exact ⟨k + 1, hlt, by go_num, moreJ (P := fun j x => ms[j]? = some x) HJ.out HX.out HO.out, Below.more HW.out b9⟩
        case measure => simp [intOf]; omega
       ·have HO : Hid ((ls == ms) = false) := Lib.hid (same_stop HX.out HY.out (fun e => by cases e; exact e3 rfl))
        have q0 : (a == a') = true := by rw [beq_iff_eq]; assumption
        have q1 : (s == s') = true := by rw [beq_iff_eq]; assumption
        have q2 : (n == n') = true := by rw [beq_iff_eq]; assumption
        have q3 : (d == d') = false := by rw [beq_eq_false_iff_ne]; assumption
        clear e0
        clear e1
        clear e2
        clear e3
        go_wp2_with fail
        refine wp_region_noPanic ?_
        refine wp_region_held_drew (S := fun w' => Below wr.heap.size wr w') (by kernel_rfl) (b0.drew) (fun hH0 => ?_)
        refine sch_in [0, 1, 2, 3, 4, 5, 6, 7, 8] ?_
        iterate 9 (refine sch_yes (v := ?_) rfl (by kernel_rfl) (by rfl) ?_ (by assumption) ?_; rotate_left 1; (· (intro w hSw; (try dsimp only at hSw); go_simp <;> (with_reducible rfl))); try simp only [Act.put, qA, qB, qC, qD, qE, qF])
        refine sch_out ?_
        refine wpAnyH_done (by kernel_rfl) ?_ _
        refine NoPanic.normal ?_
        have b9 := hH0
        clear hH0
        go_wp2_with fail
        go_ret
        exact ⟨ret_bool (by rw [HO.out]), Below.more HW.out b9⟩
      ·have HO : Hid ((ls == ms) = false) := Lib.hid (same_stop HX.out HY.out (fun e => by cases e; exact e2 rfl))
       have q0 : (a == a') = true := by rw [beq_iff_eq]; assumption
       have q1 : (s == s') = true := by rw [beq_iff_eq]; assumption
       have q2 : (n == n') = false := by rw [beq_eq_false_iff_ne]; assumption
       clear e0
       clear e1
       clear e2
       go_wp2_with fail
       refine wp_region_noPanic ?_
       refine wp_region_held_drew (S := fun w' => Below wr.heap.size wr w') (by kernel_rfl) (b0.drew) (fun hH0 => ?_)
       refine sch_in [0, 1, 2, 3, 4, 5, 6, 7, 8] ?_
       iterate 9 (refine sch_yes (v := ?_) rfl (by kernel_rfl) (by rfl) ?_ (by assumption) ?_; rotate_left 1; (· (intro w hSw; (try dsimp only at hSw); go_simp <;> (with_reducible rfl))); try simp only [Act.put, qA, qB, qC, qD, qE, qF])
       refine sch_out ?_
       refine wpAnyH_done (by kernel_rfl) ?_ _
       refine NoPanic.normal ?_
       have b9 := hH0
       clear hH0
       go_wp2_with fail
       go_ret
       exact ⟨ret_bool (by rw [HO.out]), Below.more HW.out b9⟩
     ·have HO : Hid ((ls == ms) = false) := Lib.hid (same_stop HX.out HY.out (fun e => by cases e; exact e1 rfl))
      have q0 : (a == a') = true := by rw [beq_iff_eq]; assumption
      have q1 : (s == s') = false := by rw [beq_eq_false_iff_ne]; assumption
      clear e0
      clear e1
      go_wp2_with fail
      refine wp_region_noPanic ?_
      refine wp_region_held_drew (S := fun w' => Below wr.heap.size wr w') (by kernel_rfl) (b0.drew) (fun hH0 => ?_)
      refine sch_in [0, 1, 2, 3, 4, 5, 6, 7, 8] ?_
      iterate 9 (refine sch_yes (v := ?_) rfl (by kernel_rfl) (by rfl) ?_ (by assumption) ?_; rotate_left 1; (· (intro w hSw; (try dsimp only at hSw); go_simp <;> (with_reducible rfl))); try simp only [Act.put, qA, qB, qC, qD, qE, qF])
      refine sch_out ?_
      refine wpAnyH_done (by kernel_rfl) ?_ _
      refine NoPanic.normal ?_
      have b9 := hH0
      clear hH0
      go_wp2_with fail
      go_ret
      exact ⟨ret_bool (by rw [HO.out]), Below.more HW.out b9⟩
    ·have HO : Hid ((ls == ms) = false) := Lib.hid (same_stop HX.out HY.out (fun e => by cases e; exact e0 rfl))
     have q0 : (a == a') = false := by rw [beq_eq_false_iff_ne]; assumption
     clear e0
     go_wp2_with fail
     refine wp_region_noPanic ?_
     refine wp_region_held_drew (S := fun w' => Below wr.heap.size wr w') (by kernel_rfl) (b0.drew) (fun hH0 => ?_)
     refine sch_in [0, 1, 2, 3, 4, 5, 6, 7, 8] ?_
     iterate 9 (refine sch_yes (v := ?_) rfl (by kernel_rfl) (by rfl) ?_ (by assumption) ?_; rotate_left 1; (· (intro w hSw; (try dsimp only at hSw); go_simp <;> (with_reducible rfl))); try simp only [Act.put, qA, qB, qC, qD, qE, qF])
     refine sch_out ?_
     refine wpAnyH_done (by kernel_rfl) ?_ _
     refine NoPanic.normal ?_
     have b9 := hH0
     clear hH0
     go_wp2_with fail
     go_ret
     exact ⟨ret_bool (by rw [HO.out]), Below.more HW.out b9⟩
   ·obtain rfl : k = ls.length := by omega
    have HR := Lib.hid (same_end hne fun j x hj => HJ.out j x hj); have HW := Lib.hid hw; clear hw
    go_wp2_with fail
    go_ret
    exact ⟨ret_bool (by rw [HR.out]), HW.out⟩
 ·have HR : Hid ((ls == ms) = false) := Lib.hid (beq_false_of_ne fun e => hne (congrArg List.length e))
  have hne' : ((ls.length : Int) = (ms.length : Int)) = False := eq_false (by omega)
  go_enter Tryz.func13, Tryz.ntmps13
  go_wp2
  go_ret
  exact ⟨ret_bool (by rw [HR.out]), Below.refl _ _⟩
set_option maxRecDepth 100000 in
set_option maxHeartbeats 4000000 in
theorem rbg_no (p : Option Addr) (c : Nat) (ls : List Ln) (u v : List UInt8) (w : World)
  (CM : Hid (∀ v, Below w.heap.size w v → Calls Tryz.prog 22 #[.slice p ls.length c] v (GiveB v false))) :
  Calls Tryz.prog 25 #[.slice p ls.length c, .string ⟨u.toArray⟩, .string ⟨v.toArray⟩] w (GiveR w ([], [])) := by
 go_enter Tryz.func25, Tryz.ntmps25
 go_wp2_with fail
 obtain ⟨W, hW, BW, sW, r0, r1, r2, r3⟩ := box0z w (.string ⟨#[]⟩) (.string ⟨#[]⟩) 35
 rw [hW]; clear hW
 have b0 := Below.refl W.heap.size W
 refine (CM.out _ BW).mono ?_
 rintro e w1 ⟨rfl, b⟩
 have b1 := Below.more b0 b
 clear b
 go_wp2_with fail
 refine bodyPost_ret (v := .agg #[.string ⟨#[]⟩, .string ⟨#[]⟩]) (by simp [results, Tryz.results25, go_sem, *]) rfl ⟨rfl, ?_⟩
 exact put2 (Below.more BW b1) (Nat.le_refl _) _ _
set_option maxRecDepth 100000 in
set_option maxHeartbeats 4000000 in
theorem rbg_yes (p : Option Addr) (c : Nat) (ls : List Ln) (u v : List UInt8) (w : World) (hc : ls.length ≤ c) (hl : ls.length ≤ 4611686018427387904) (h : Lns w p ls)
  (CM : Hid (∀ v, Below w.heap.size w v → Calls Tryz.prog 22 #[.slice p ls.length c] v (GiveB v true)))
  (CO : Hid (∀ w, Calls Tryz.prog 28 #[.int .i64 0] w (GiveR w ([48], [49])))) :
  Calls Tryz.prog 25 #[.slice p ls.length c, .string ⟨u.toArray⟩, .string ⟨v.toArray⟩] w (GiveR w (rawB ls (u, v))) := by
 have HS := Lib.hid h; clear h
 go_enter Tryz.func25, Tryz.ntmps25
 go_wp2_with fail
 obtain ⟨W, hW, BW, sW, r0, r1, r2, r3⟩ := box0z w (.string ⟨#[]⟩) (.string ⟨#[]⟩) 35
 rw [hW]; clear hW
 have b0 := Below.refl W.heap.size W
 refine (CM.out _ BW).mono ?_
 rintro e w1 ⟨rfl, b⟩
 have b1 := Below.more b0 b
 clear b
 clear CM
 go_wp2_with fail
 go_loop [7] (fun i => ∃ k : Nat, k ≤ ls.length ∧ i = .int .i64 k ∧ Hid (∀ (j : Nat) (x : Ln), j < k → ls[j]? = some x → (x.1 == (u, v)) = false)) (fun i => ls.length - (intOf i).toNat)
 case atStart => exact ⟨0, Nat.zero_le _, rfl, fun j x h => absurd h (Nat.not_lt_zero j)⟩
 case round =>
  obtain ⟨k, hk, rfl, HJ⟩ := hrel
  by_cases hlt : k < ls.length
  ·obtain ⟨⟨⟨a, s⟩, ⟨n, d⟩⟩, hx⟩ : ∃ x, ls[k]? = some x := ⟨_, List.getElem?_eq_getElem hlt⟩
   obtain ⟨b, o, rfl, k0, k1, k2, k3⟩ := (HS.out.below BW).rule hx
   have HX := Lib.hid hx
   clear hx
   by_cases e0 : a = u
   ·by_cases e1 : s = v
    ·have HO : Hid (rawB ls (u, v) = (n, d)) := Lib.hid (by
      have k := lineOf_at (k := (u, v)) HX.out (Prod.ext e0 e1) HJ.out
      unfold rawB; rw [k])
     have q0 : (a == u) = true := by rw [beq_iff_eq]; exact e0
     have q1 : (s == v) = true := by rw [beq_iff_eq]; exact e1
     clear e0 e1
     rw [HO.out]
     go_wp2_with fail
     refine bodyPost_ret (v := .agg #[.string ⟨n.toArray⟩, .string ⟨d.toArray⟩]) (by simp [results, Tryz.results25, go_sem, *]) rfl ⟨rfl, ?_⟩
     exact put2 (Below.more BW b1) (Nat.le_refl _) _ _
    ·have HO : Hid (((((a, s), (n, d)) : Ln).1 == (u, v)) = false) := Lib.hid (beq_false_of_ne fun e => e1 (congrArg Prod.snd e))
     have q0 : (a == u) = true := by rw [beq_iff_eq]; exact e0
     have q1 : (s == v) = false := beq_false_of_ne e1
     clear e0 e1
     go_wp2_with fail
     go_round
     case rel => exact ⟨k + 1, hlt, by go_num, more HJ.out HX.out HO.out⟩
     case measure => simp [intOf]; omega
   ·have HO : Hid (((((a, s), (n, d)) : Ln).1 == (u, v)) = false) := Lib.hid (beq_false_of_ne fun e => e0 (congrArg Prod.fst e))
    have q0 : (a == u) = false := beq_false_of_ne e0
    clear e0
    go_wp2_with fail
    go_round
    case rel => exact ⟨k + 1, hlt, by go_num, more HJ.out HX.out HO.out⟩
    case measure => simp [intOf]; omega
  ·obtain rfl : k = ls.length := by omega
   have HR : Hid (rawB ls (u, v) = ([48], [49])) := Lib.hid (by
    have k := lineOf_no (k := (u, v)) HJ.out
    unfold rawB; rw [k])
   go_wp2_with fail
   refine (CO.out _).mono ?_
   rintro e w2 ⟨rfl, b⟩
   have b2 := Below.more b1 b
   clear b
   go_wp2_with fail
   refine bodyPost_ret (v := .agg #[.string ⟨#[48]⟩, .string ⟨#[49]⟩]) (by simp [results, Tryz.results25, go_sem, *]) rfl ⟨by first | (rw [HR.out]; done) | (rw [HR.out]; rfl), ?_⟩
   exact put2 (Below.more BW b2) (Nat.le_refl _) _ _
theorem rbget_any (p : Option Addr) (c : Nat) (ls : List Ln) (u v : List UInt8) (w : World) (hc : ls.length ≤ c) (hl : ls.length ≤ 4611686018427387904) (hz : ∀ x ∈ ls, SzL x) (h : Lns w p ls) :
  Calls Tryz.prog 25 #[.slice p ls.length c, .string ⟨u.toArray⟩, .string ⟨v.toArray⟩] w (GiveR w (getB ls (u, v))) := by
 have cm := fun v (hv : Below w.heap.size w v) => rbmay_any p c ls v hc hl hz (h.below hv)
 have co : ∀ w, Calls Tryz.prog 28 #[.int .i64 0] w (GiveR w ([48], [49])) := fun w => by
  have k := rqof_any 0 w (by decide) (by decide)
  rw [wd_0] at k
  exact k
 unfold getB
 cases hm : mayB ls with
 | false => rw [hm] at cm; exact rbg_no p c ls u v w (Lib.hid cm)
 | true => rw [hm] at cm; exact rbg_yes p c ls u v w hc hl h (Lib.hid cm) (Lib.hid co)
end Go.Proofs.YtagfndkfjbbpjaaGreatDoor
