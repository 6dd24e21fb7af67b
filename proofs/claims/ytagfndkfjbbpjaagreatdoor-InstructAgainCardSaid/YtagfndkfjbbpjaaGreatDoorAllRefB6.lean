/- A line more. -/
import Derived.Deep.CutRange
import Derived.Test.YtagfndkfjbbpjaaGreatDoorSch
import Derived.Test.YtagfndkfjbbpjaaGreatDoorAllRefB5
namespace Go.Proofs.YtagfndkfjbbpjaaGreatDoor
open Go.RowKit
set_option linter.unusedSimpArgs false
set_option linter.unusedVariables false
theorem zc_put {b : Nat} {a c x y : Value} {v : World} (h : Zc b a c v) : Zc b x y ((v.setCell ⟨b, 0, none⟩ x).setCell ⟨b, 1, none⟩ y) := by
 have e0 : (v.setCell ⟨b, 0, none⟩ x).cell? ⟨b, 1, none⟩ = some c := by rw [cell?_setCell_ne _ _ _ _ _ (by omega)]; exact h.c1
 refine ⟨?_, ?_, ?_, ?_, ?_⟩
 ·rw [cell?_setCell_ne _ _ _ _ _ (by omega), World.cell?_setCell_same' _ _ _ (by rw [h.c0]; rfl)]
 ·rw [World.cell?_setCell_same' _ _ _ (by rw [e0]; rfl)]
 ·simpa using h.f0
 ·simpa using h.f1
 ·simpa using h.lt
def GiveLB (w : World) (r : List Ln × Bool) (e : Ending) (w' : World) : Prop := (∃ p c, e = .returned (.tuple #[.slice p r.1.length c, .bool r.2]) ∧ r.1.length ≤ c ∧ Lns w' p r.1) ∧ Below w.heap.size w w'
def GiveLBF (w : World) (r : List Ln × Bool) (e : Ending) (w' : World) : Prop := (∃ p c, e = .returned (.tuple #[.slice p r.1.length c, .bool r.2]) ∧ r.1.length ≤ c ∧ Lns w' p r.1 ∧ ∀ a, p = some a → w.heap.size ≤ a.block) ∧ Below w.heap.size w w'
theorem GiveLBF.old {w : World} {r : List Ln × Bool} {e : Ending} {w' : World} (h : GiveLBF w r e w') : GiveLB w r e w' := by
 obtain ⟨⟨p, c, he, hc, hl, _⟩, hb⟩ := h
 exact ⟨⟨p, c, he, hc, hl⟩, hb⟩
theorem giveLBF {w w' : World} {B : Nat} {v : Value} {ls : List Ln} {b : Bool} (h : Own B w' v ls) (hB : w.heap.size ≤ B) (hb : Below w.heap.size w w') : GiveLBF w (ls, b) (.returned (.tuple #[v, .bool b])) w' := by
 obtain ⟨p, c, rfl, hc, hl, hf⟩ := own_lns h
 exact ⟨⟨p, c, rfl, hc, hl, fun a e => Nat.le_trans hB (hf a e)⟩, hb⟩
theorem ins_len : ∀ (ls : List Ln) (lb : Bool) (k q : Key), (insB ls lb k q).length ≤ 2 * ls.length + 1
 | [], lb, k, q => by cases lb <;> simp [insB]
 | x :: r, lb, k, q => by
  have h := ins_len r (lb || !aheadK x.1 k) k q
  show ((if !lb && !aheadK x.1 k then [(k, q)] else []) ++ ((if x.1 == k then [] else [x]) ++ insB r (lb || !aheadK x.1 k) k q)).length ≤ _
  rw [List.length_append, List.length_append, List.length_cons]
  have h1 : (if !lb && !aheadK x.1 k then [(k, q)] else []).length ≤ 1 := by split <;> simp
  have h2 : (if x.1 == k then [] else [x]).length ≤ 1 := by split <;> simp
  omega
theorem ins_step {ls : List Ln} {j : Nat} {x : Ln} (hx : ls[j]? = some x) (lb : Bool) (k q : Key) : insB (ls.drop j) lb k q = (if !lb && !aheadK x.1 k then [(k, q)] else []) ++ ((if x.1 == k then [] else [x]) ++ insB (ls.drop (j + 1)) (lb || !aheadK x.1 k) k q) := by
 obtain ⟨hj, e⟩ := List.getElem?_eq_some_iff.1 hx
 rw [List.drop_eq_getElem_cons hj, e]
 rfl
set_option maxRecDepth 100000 in
set_option maxHeartbeats 4000000 in
theorem rba_may (p : Option Addr) (c : Nat) (ls : List Ln) (a s n d : List UInt8)  (w : World)
  (CM : Hid (∀ v, Below w.heap.size w v → Calls Tryz.prog 22 #[.slice p ls.length c] v (GiveB v false))) :
  Calls Tryz.prog 23 #[.slice p ls.length c, .agg #[.string ⟨a.toArray⟩, .string ⟨s.toArray⟩, .string ⟨n.toArray⟩, .string ⟨d.toArray⟩]] w (GiveLBF w ([], false)) := by
 have HT : Hid (NoB w) := Lib.hid (noB w)
 go_enter Tryz.func23, Tryz.ntmps23
 go_wp2_with fail
 have BW := Below.refl w.heap.size w
 have b0 : Below w.heap.size w w := Below.refl _ _
 obtain ⟨U1, hU, bU, s1, rl0, rl1, rl2, rl3⟩ := lay4 b0 (.string ⟨a.toArray⟩) (.string ⟨s.toArray⟩) (.string ⟨n.toArray⟩) (.string ⟨d.toArray⟩) 46
 rw [hU]; clear hU
 clear s1
 replace BW := Below.more BW bU
 replace HT := Lib.hid (HT.out.below bU)
 clear bU
 have b1 := Below.refl U1.heap.size U1
 go_wp2_with fail
 refine (CM.out _ (Below.more BW b1)).mono ?_
 rintro e w2 ⟨rfl, b⟩
 have b2 := Below.more b1 b
 clear b
 go_wp2_with fail
 refine bodyPost_ret (v := .tuple #[.slice none 0 0, .bool false]) (by simp [results, Tryz.results23, go_sem, *]) rfl ?_
 exact ⟨⟨none, 0, rfl, Nat.le_refl _, Lns.nil _ _, fun _ h => (by cases h)⟩, Below.more BW b2⟩
set_option maxRecDepth 100000 in
set_option maxHeartbeats 4000000 in
theorem rba_line (p : Option Addr) (c : Nat) (ls : List Ln) (a s n d : List UInt8)  (w : World)
  (CM : Hid (∀ v, Below w.heap.size w v → Calls Tryz.prog 22 #[.slice p ls.length c] v (GiveB v true)))
  (CL : Hid (∀ w, Calls Tryz.prog 45 #[.agg #[.string ⟨a.toArray⟩, .string ⟨s.toArray⟩, .string ⟨n.toArray⟩, .string ⟨d.toArray⟩]] w (GiveB w false))) :
  Calls Tryz.prog 23 #[.slice p ls.length c, .agg #[.string ⟨a.toArray⟩, .string ⟨s.toArray⟩, .string ⟨n.toArray⟩, .string ⟨d.toArray⟩]] w (GiveLBF w ([], false)) := by
 have HT : Hid (NoB w) := Lib.hid (noB w)
 go_enter Tryz.func23, Tryz.ntmps23
 go_wp2_with fail
 have BW := Below.refl w.heap.size w
 have b0 : Below w.heap.size w w := Below.refl _ _
 obtain ⟨U1, hU, bU, s1, rl0, rl1, rl2, rl3⟩ := lay4 b0 (.string ⟨a.toArray⟩) (.string ⟨s.toArray⟩) (.string ⟨n.toArray⟩) (.string ⟨d.toArray⟩) 46
 rw [hU]; clear hU
 clear s1
 replace BW := Below.more BW bU
 replace HT := Lib.hid (HT.out.below bU)
 clear bU
 have b1 := Below.refl U1.heap.size U1
 go_wp2_with fail
 refine (CM.out _ (Below.more BW b1)).mono ?_
 rintro e w2 ⟨rfl, b⟩
 have b2 := Below.more b1 b
 clear b
 go_wp2_with fail
 refine (CL.out _).mono ?_
 rintro e w3 ⟨rfl, b⟩
 have b3 := Below.more b2 b
 clear b
 go_wp2_with fail
 refine bodyPost_ret (v := .tuple #[.slice none 0 0, .bool false]) (by simp [results, Tryz.results23, go_sem, *]) rfl ?_
 exact ⟨⟨none, 0, rfl, Nat.le_refl _, Lns.nil _ _, fun _ h => (by cases h)⟩, Below.more BW b3⟩
set_option maxRecDepth 100000 in
set_option maxHeartbeats 4000000 in
theorem rba_yes (p : Option Addr) (c : Nat) (ls : List Ln) (a s n d : List UInt8) {g1 g2 q1 q2 : List UInt8} {z : Int} (R : List Ln) (hR : insB ls (z == 0) (a, s) (q1, q2) = R) (w : World)
  (hc : ls.length ≤ c) (hl : ls.length ≤ 1000000) (h : Lns w p ls)
  (CM : Hid (∀ v, Below w.heap.size w v → Calls Tryz.prog 22 #[.slice p ls.length c] v (GiveB v true)))
  (CL : Hid (∀ w, Calls Tryz.prog 45 #[.agg #[.string ⟨a.toArray⟩, .string ⟨s.toArray⟩, .string ⟨n.toArray⟩, .string ⟨d.toArray⟩]] w (GiveB w true)))
  (CG : Hid (∀ v, Below w.heap.size w v → Calls Tryz.prog 25 #[.slice p ls.length c, .string ⟨a.toArray⟩, .string ⟨s.toArray⟩] v (GiveR v (g1, g2))))
  (CA : Hid (∀ w, Calls Tryz.prog 29 #[.agg #[.string ⟨g1.toArray⟩, .string ⟨g2.toArray⟩], .agg #[.string ⟨n.toArray⟩, .string ⟨d.toArray⟩]] w (GiveR w (q1, q2))))
  (CS : Hid (∀ w, Calls Tryz.prog 24 #[.agg #[.string ⟨q1.toArray⟩, .string ⟨q2.toArray⟩]] w (GiveI w z))) :
  Calls Tryz.prog 23 #[.slice p ls.length c, .agg #[.string ⟨a.toArray⟩, .string ⟨s.toArray⟩, .string ⟨n.toArray⟩, .string ⟨d.toArray⟩]] w (GiveLBF w (R, true)) := by
 have HT : Hid (NoB w) := Lib.hid (noB w)
 go_enter Tryz.func23, Tryz.ntmps23
 go_wp2_with fail
 have BW := Below.refl w.heap.size w
 have b0 : Below w.heap.size w w := Below.refl _ _
 obtain ⟨U1, hU, bU, s1, rl0, rl1, rl2, rl3⟩ := lay4 b0 (.string ⟨a.toArray⟩) (.string ⟨s.toArray⟩) (.string ⟨n.toArray⟩) (.string ⟨d.toArray⟩) 46
 rw [hU]; clear hU
 clear s1
 replace BW := Below.more BW bU
 replace HT := Lib.hid (HT.out.below bU)
 clear bU
 have b1 := Below.refl U1.heap.size U1
 have HS : Hid (Lns w p ls) := Lib.hid h; clear h
 obtain ⟨i0, hi, hz0, hz1, hz2⟩ := info_parts lnInfo
 go_wp2_with fail
 refine (CM.out _ (Below.more BW b1)).mono ?_
 rintro e w2 ⟨rfl, b⟩
 have b2 := Below.more b1 b
 clear b
 go_wp2_with fail
 refine (CL.out _).mono ?_
 rintro e w3 ⟨rfl, b⟩
 have b3 := Below.more b2 b
 clear b
 clear CM CL
 go_upto_region 3 with fail
 have hB := Lib.hid (Nat.le_refl U1.heap.size)
 go_cut [6] from 18 to 26 (fun t6 wx => (∃ p, t6 = .pointer (some ⟨p, 0, none⟩) ∧ Zc p (.string ⟨q1.toArray⟩) (.string ⟨q2.toArray⟩) wx) ∧ Below U1.heap.size U1 wx)
 case first =>
  first | (go_region_held3 (fun w' => Below U1.heap.size U1 w')
   (first | (exact b3.drew) | (with_reducible assumption) | (exact Below.alloc (by with_reducible assumption) (Nat.le_trans hB.out (Below.size (by with_reducible assumption))) _) | (exact put2 (by with_reducible assumption) (Nat.le_refl _) _ _) | (exact put2 (by with_reducible assumption) hB.out _ _) | (exact put2 (by with_reducible assumption) (Nat.le_trans hB.out (Below.size (by with_reducible assumption))) _ _))
   (first | (go_at_call 25; (with_reducible refine (held (W := U1) hB.out (CG.out _ (Below.more BW (by with_reducible assumption))) (by assumption)).mono ?_); rintro e w'' ⟨rfl, hb, hw⟩; (first | (have hz := zc_made0 hb) | (have hz := zc_made hb) | skip); (try have hz := Zc.below (by assumption) hb); (try (have z0 := hz.c0; have z1 := hz.c1; have z2 := hz.f0; have z3 := hz.f1))) | (go_at_call 29; (with_reducible refine (held (W := U1) hB.out (CA.out _) (by assumption)).mono ?_); rintro e w'' ⟨rfl, hb, hw⟩; (first | (have hz := zc_made0 hb) | (have hz := zc_made hb) | skip); (try have hz := Zc.below (by assumption) hb); (try (have z0 := hz.c0; have z1 := hz.c1; have z2 := hz.f0; have z3 := hz.f1))))) | fail
  all_goals (go_wp2_with fail)
  all_goals (go_meet)
  all_goals (exact ⟨⟨_, rfl, (by first | exact zc_new _ _ _ _ | exact zc_put (by assumption))⟩, by with_reducible assumption⟩)
 case rest =>
  obtain ⟨⟨pq, rfl, hz⟩, hc'⟩ := hcut
  clear hB CG CA
  have rq0 := fun v (h : Below wc.heap.size wc v) => (hz.below h).c0
  have rq1 := fun v (h : Below wc.heap.size wc v) => (hz.below h).c1
  replace rl0 := fun v (h : Below wc.heap.size wc v) => rl0 v (Below.more hc' h)
  replace rl1 := fun v (h : Below wc.heap.size wc v) => rl1 v (Below.more hc' h)
  replace rl2 := fun v (h : Below wc.heap.size wc v) => rl2 v (Below.more hc' h)
  replace rl3 := fun v (h : Below wc.heap.size wc v) => rl3 v (Below.more hc' h)
  replace BW := Below.more BW hc'
  have HSc := Lib.hid (HS.out.below BW)
  have b20 := Below.refl wc.heap.size wc
  clear hc' hz HS
  have ba := fun x => Below.alloc b20 (Nat.le_refl _) x
  go_wp2_with fail
  refine (CS.out _).mono ?_
  rintro e w5 ⟨rfl, b⟩
  have hO5 : Own wc.heap.size w5 (.slice (some ⟨wc.heap.size, 0, none⟩) 0 0) [] := own_below (World.ownsRow_lit wc #[] 0 (Nat.le_refl _) (by decide) rfl) b
  have hW5 : Below wc.heap.size wc w5 := (ba _).trans (b.mono (Below.size (ba _)))
  clear b ba CS
  go_wp2_with fail
  go_loopw [7, 8, 9] (fun out lv i wr => ∃ (k : Nat) (fs : List Ln) (lb : Bool), k ≤ ls.length ∧ i = .int .i64 k ∧ lv = .bool lb ∧ Own wc.heap.size wr out fs ∧ Below wc.heap.size wc wr ∧ Hid (fs ++ insB (ls.drop k) lb (a, s) (q1, q2) = R)) (fun _ _ i _ => ls.length - (intOf i).toNat)
  case atStart => exact ⟨0, [], _, Nat.zero_le _, rfl, rfl, hO5, hW5, Lib.hid hR⟩
  case round =>
   obtain ⟨k, fs, lb, hk, rfl, rfl, hown, hbw, HF⟩ := hrel
   by_cases hlt : k < ls.length
   ·obtain ⟨⟨⟨a', s'⟩, ⟨n', d'⟩⟩, hx⟩ : ∃ x, ls[k]? = some x := ⟨_, List.getElem?_eq_getElem hlt⟩
    obtain ⟨b, o, rfl, k0, k1, k2, k3⟩ := HSc.out.rule hx
    have hfl : fs.length ≤ 2000001 := by
     have e := congrArg List.length HF.out
     rw [List.length_append] at e
     have e2 := ins_len ls (z == 0) (a, s) (q1, q2)
     rw [hR] at e2
     omega
    have hlt' : (k : Int) < (ls.length : Int) := by omega
    have ch := fun w => rbahead_any a' s' n' d' a s n d w
    have hst := ins_step hx lb (a, s) (q1, q2)
    have hst : insB (ls.drop k) lb (a, s) (q1, q2) = (if !lb && !aheadK (a', s') (a, s) then [((a, s), (q1, q2))] else []) ++ ((if ((a', s') : Key) == (a, s) then [] else [((a', s'), (n', d'))]) ++ insB (ls.drop (k + 1)) (lb || !aheadK (a', s') (a, s)) (a, s) (q1, q2)) := hst
    have hF := HF.out
    rw [hst] at hF
    have hO := Lib.hid hown; have hW := Lib.hid hbw
    have hB := Lib.hid (Nat.le_refl wc.heap.size)
    clear hown hbw hst HF hx
    cases lb with
    | true =>
     rw [show (!true && !aheadK (a', s') (a, s)) = false from rfl, show (true || !aheadK (a', s') (a, s)) = true from rfl, if_neg Bool.false_ne_true, List.nil_append] at hF
     by_cases e0 : a' = a
     ·by_cases e1 : s' = s
      ·have kk : (((a', s') : Key) == (a, s)) = true := by rw [e0, e1]; exact beq_self_eq_true _
       have HN : Hid (fs ++ insB (ls.drop (k + 1)) true (a, s) (q1, q2) = R) := Lib.hid (by rw [← hF]; simp [kk])
       have qq0 : (a' == a) = true := by rw [beq_iff_eq]; assumption
       have qq1 : (s' == s) = true := by rw [beq_iff_eq]; assumption
       clear hF kk
       clear e0 e1
       go_wp2_with fail
       refine wp_region_noPanic ?_
       refine wp_region_held_drew (S := fun w' => Below wc.heap.size wc w') (by kernel_rfl) (hW.out.drew) (fun hH0 => ?_)
       refine sch_in [0, 1, 2, 3, 4, 5, 6, 7, 8, 9, 10] ?_
       iterate 11 (first | (refine sch_no rfl (by kernel_rfl) (by rfl) (by assumption) ?_; try simp only [Act.put, qA, qB, qC, qD, qE, qF]) | (refine sch_yes (v := ?_) rfl (by kernel_rfl) (by rfl) ?_ (by assumption) ?_; rotate_left 1; (· (intro w hSw; (try dsimp only at hSw); go_simp <;> (with_reducible rfl))); try simp only [Act.put, qA, qB, qC, qD, qE, qF]))
       refine sch_out ?_
       refine wpAnyH_done (by kernel_rfl) ?_ _
       refine NoPanic.normal ?_
       have b9 := hH0
       clear hH0
       go_wp2_with fail
       have hB := Lib.hid (Nat.le_refl wc.heap.size)
       refine wp_region_noPanic ?_
       refine wp_region_held_drew (S := fun w' => Below wc.heap.size wc w') (by kernel_rfl) (b9.drew) (fun hH0 => ?_)
       refine sch_in [0, 1, 2, 3, 4, 5, 6, 7, 8, 9, 10, 11, 12, 13, 14, 15, 16, 17] ?_
       iterate 18 (refine sch_yes (v := ?_) rfl (by kernel_rfl) (by rfl) ?_ (by assumption) ?_; rotate_left 1; (· (intro w hSw; (try dsimp only at hSw); go_simp <;> (with_reducible rfl))); try simp only [Act.put, qA, qB, qC, qD, qE, qF])
       refine sch_out ?_
       refine wpAnyH_done (by kernel_rfl) ?_ _
       refine NoPanic.normal ?_
       have b12 := hH0
       clear hH0
       have hOz := World.ownsRow.drew (World.ownsRow.drew hO.out)
       generalize (wr.drew).drew = wz at hOz b12 ⊢
       go_wp2_with fail
       go_roundw
       case rel => exact ⟨k + 1, _, _, hlt, by go_num, rfl, hOz, b12, HN⟩
       case measure => simp [intOf]; omega
      ·have kk : (((a', s') : Key) == (a, s)) = false := beq_false_of_ne fun e => e1 (congrArg Prod.snd e)
       have HN : Hid ((fs ++ [((a', s'), (n', d'))]) ++ insB (ls.drop (k + 1)) true (a, s) (q1, q2) = R) := Lib.hid (by rw [← hF]; simp [kk])
       have qq0 : (a' == a) = true := by rw [beq_iff_eq]; assumption
       have qq1 : (s' == s) = false := beq_false_of_ne (by assumption)
       clear hF kk
       clear e0 e1
       go_wp2_with fail
       refine wp_region_noPanic ?_
       refine wp_region_held_drew (S := fun w' => Below wc.heap.size wc w') (by kernel_rfl) (hW.out.drew) (fun hH0 => ?_)
       refine sch_in [0, 1, 2, 3, 4, 5, 6, 7, 8, 9, 10] ?_
       iterate 11 (first | (refine sch_no rfl (by kernel_rfl) (by rfl) (by assumption) ?_; try simp only [Act.put, qA, qB, qC, qD, qE, qF]) | (refine sch_yes (v := ?_) rfl (by kernel_rfl) (by rfl) ?_ (by assumption) ?_; rotate_left 1; (· (intro w hSw; (try dsimp only at hSw); go_simp <;> (with_reducible rfl))); try simp only [Act.put, qA, qB, qC, qD, qE, qF]))
       refine sch_out ?_
       refine wpAnyH_done (by kernel_rfl) ?_ _
       refine NoPanic.normal ?_
       have b9 := hH0
       clear hH0
       go_wp2_with fail
       have hB := Lib.hid (Nat.le_refl wc.heap.size)
       refine wp_region_noPanic ?_
       refine wp_region_held_drew (S := fun w' => Below wc.heap.size wc w') (by kernel_rfl) (b9.drew) (fun hH0 => ?_)
       refine sch_in [0, 1, 2, 3, 4, 5, 6, 7, 8, 9, 10, 11, 12, 13, 14, 15, 16, 17] ?_
       iterate 18 (refine sch_yes (v := ?_) rfl (by kernel_rfl) (by rfl) ?_ (by assumption) ?_; rotate_left 1; (· (intro w hSw; (try dsimp only at hSw); go_simp <;> (with_reducible rfl))); try simp only [Act.put, qA, qB, qC, qD, qE, qF])
       refine sch_out ?_
       refine wpAnyH_done (by kernel_rfl) ?_ _
       refine NoPanic.normal ?_
       have b12 := hH0
       clear hH0
       have hOz := World.ownsRow.drew (World.ownsRow.drew hO.out)
       generalize (wr.drew).drew = wz at hOz b12 ⊢
       go_wp2_with (first | (at_builtin; refine wpList_append_own _ rfl _ _ 23 rfl wc.heap.size 46 i0 (.agg #[.string ⟨#[]⟩, .string ⟨#[]⟩, .string ⟨#[]⟩, .string ⟨#[]⟩]) 4 64 Tryz.underlying23 hi hz0 hz1 hz2 rfl (by decide) _ _ _ rfl (World.ownsRow.alloc (hOz) _) ⟨wz.heap.size, 0, none⟩ 1 1 [.string ⟨a'.toArray⟩, .string ⟨s'.toArray⟩, .string ⟨n'.toArray⟩, .string ⟨d'.toArray⟩] rfl rfl (cell_four _ _ _ _ _ _) (fun x hx => by simp at hx; rcases hx with rfl | rfl | rfl | rfl <;> rfl) (by unfold maxLen; omega) (by omega) (by have := Below.size (b12); simp; omega) ?_; intro v4 w4 hown' hgrow' hnil'; have hbw' : Below wc.heap.size wc w4 := Below.grown (Below.alloc (b12) (Below.size (b12)) _) hgrow' (by have := Below.size (b12); simp; omega) (fun j hj => (World.ownsRow.lt (hOz) _ hj).1); have X4 : Hid (Own wc.heap.size w4 v4 (fs ++ [((a', s'), (n', d'))]) ∧ Below wc.heap.size wc w4) := Lib.hid ⟨own_snoc hown', hbw'⟩; clear hown' hgrow' hnil' hbw'))
       go_roundw
       case rel => exact ⟨k + 1, _, _, hlt, by go_num, rfl, X4.out.1, X4.out.2, HN⟩
       case measure => simp [intOf]; omega
     ·have kk : (((a', s') : Key) == (a, s)) = false := beq_false_of_ne fun e => e0 (congrArg Prod.fst e)
      have HN : Hid ((fs ++ [((a', s'), (n', d'))]) ++ insB (ls.drop (k + 1)) true (a, s) (q1, q2) = R) := Lib.hid (by rw [← hF]; simp [kk])
      have qq0 : (a' == a) = false := beq_false_of_ne (by assumption)
      clear hF kk
      clear e0
      go_wp2_with fail
      refine wp_region_noPanic ?_
      refine wp_region_held_drew (S := fun w' => Below wc.heap.size wc w') (by kernel_rfl) (hW.out.drew) (fun hH0 => ?_)
      refine sch_in [0, 1, 2, 3, 4, 5, 6, 7, 8, 9, 10] ?_
      iterate 11 (first | (refine sch_no rfl (by kernel_rfl) (by rfl) (by assumption) ?_; try simp only [Act.put, qA, qB, qC, qD, qE, qF]) | (refine sch_yes (v := ?_) rfl (by kernel_rfl) (by rfl) ?_ (by assumption) ?_; rotate_left 1; (· (intro w hSw; (try dsimp only at hSw); go_simp <;> (with_reducible rfl))); try simp only [Act.put, qA, qB, qC, qD, qE, qF]))
      refine sch_out ?_
      refine wpAnyH_done (by kernel_rfl) ?_ _
      refine NoPanic.normal ?_
      have b9 := hH0
      clear hH0
      go_wp2_with fail
      have hB := Lib.hid (Nat.le_refl wc.heap.size)
      refine wp_region_noPanic ?_
      refine wp_region_held_drew (S := fun w' => Below wc.heap.size wc w') (by kernel_rfl) (b9.drew) (fun hH0 => ?_)
      refine sch_in [0, 1, 2, 3, 4, 5, 6, 7, 8, 9, 10, 11, 12, 13, 14, 15, 16, 17] ?_
      iterate 18 (first | (refine sch_no rfl (by kernel_rfl) (by rfl) (by assumption) ?_; try simp only [Act.put, qA, qB, qC, qD, qE, qF]) | (refine sch_yes (v := ?_) rfl (by kernel_rfl) (by rfl) ?_ (by assumption) ?_; rotate_left 1; (· (intro w hSw; (try dsimp only at hSw); go_simp <;> (with_reducible rfl))); try simp only [Act.put, qA, qB, qC, qD, qE, qF]))
      refine sch_out ?_
      refine wpAnyH_done (by kernel_rfl) ?_ _
      refine NoPanic.normal ?_
      have b12 := hH0
      clear hH0
      have hOz := World.ownsRow.drew (World.ownsRow.drew hO.out)
      generalize (wr.drew).drew = wz at hOz b12 ⊢
      go_wp2_with (first | (at_builtin; refine wpList_append_own _ rfl _ _ 23 rfl wc.heap.size 46 i0 (.agg #[.string ⟨#[]⟩, .string ⟨#[]⟩, .string ⟨#[]⟩, .string ⟨#[]⟩]) 4 64 Tryz.underlying23 hi hz0 hz1 hz2 rfl (by decide) _ _ _ rfl (World.ownsRow.alloc (hOz) _) ⟨wz.heap.size, 0, none⟩ 1 1 [.string ⟨a'.toArray⟩, .string ⟨s'.toArray⟩, .string ⟨n'.toArray⟩, .string ⟨d'.toArray⟩] rfl rfl (cell_four _ _ _ _ _ _) (fun x hx => by simp at hx; rcases hx with rfl | rfl | rfl | rfl <;> rfl) (by unfold maxLen; omega) (by omega) (by have := Below.size (b12); simp; omega) ?_; intro v4 w4 hown' hgrow' hnil'; have hbw' : Below wc.heap.size wc w4 := Below.grown (Below.alloc (b12) (Below.size (b12)) _) hgrow' (by have := Below.size (b12); simp; omega) (fun j hj => (World.ownsRow.lt (hOz) _ hj).1); have X4 : Hid (Own wc.heap.size w4 v4 (fs ++ [((a', s'), (n', d'))]) ∧ Below wc.heap.size wc w4) := Lib.hid ⟨own_snoc hown', hbw'⟩; clear hown' hgrow' hnil' hbw'))
      go_roundw
      case rel => exact ⟨k + 1, _, _, hlt, by go_num, rfl, X4.out.1, X4.out.2, HN⟩
      case measure => simp [intOf]; omega
    | false =>
     cases h3 : aheadK (a', s') (a, s) with
     | true =>
      rw [h3] at ch hF
      rw [show (!false && !true) = false from rfl, show (false || !true) = false from rfl, if_neg Bool.false_ne_true, List.nil_append] at hF
      have CH := Lib.hid ch; clear ch h3
      by_cases e0 : a' = a
      ·by_cases e1 : s' = s
       ·have kk : (((a', s') : Key) == (a, s)) = true := by rw [e0, e1]; exact beq_self_eq_true _
        have HN : Hid (fs ++ insB (ls.drop (k + 1)) false (a, s) (q1, q2) = R) := Lib.hid (by rw [← hF]; simp [kk])
        have qq0 : (a' == a) = true := by rw [beq_iff_eq]; assumption
        have qq1 : (s' == s) = true := by rw [beq_iff_eq]; assumption
        clear hF kk
        clear e0 e1
        go_wp2_with fail
        refine wp_region_noPanic ?_
        refine wp_region_held_drew (S := fun w' => Below wc.heap.size wc w') (by kernel_rfl) (hW.out.drew) (fun hH0 => ?_)
        refine sch_in [0, 1, 2, 3, 4, 5, 6, 7] ?_
        iterate 8 (refine sch_yes (v := ?_) rfl (by kernel_rfl) (by rfl) ?_ (by assumption) ?_; rotate_left 1; (· (intro w hSw; (try dsimp only at hSw); go_simp <;> (with_reducible rfl))); try simp only [Act.put, qA, qB, qC, qD, qE, qF])
        refine sch_out ?_
        refine wpAnyH_ready (rs := [8]) (by kernel_rfl) (by simp) ?_
        refine AllReadyH.cons rfl (fun K hK => ?_) AllReadyH.nil
        go_simp
        refine (held (W := wc) hB.out (CH.out _) (by assumption)).mono ?_
        rintro e w'' ⟨rfl, hb, hw⟩
        have hO9 := Lib.hid (own_below (B := wc.heap.size) (World.ownsRow.drew hO.out) hb)
        (try go_wp2_with fail)
        refine hK.out _ _ hw (fun hH1 => ?_)
        clear hK hH0 hb
        try simp only [Act.put, qA, qB, qC, qD, qE, qF]
        refine sch_in [9, 10] ?_
        iterate 2 (refine sch_yes (v := ?_) rfl (by kernel_rfl) (by rfl) ?_ (by assumption) ?_; rotate_left 1; (· (intro w hSw; (try dsimp only at hSw); go_simp <;> (with_reducible rfl))); try simp only [Act.put, qA, qB, qC, qD, qE, qF])
        refine sch_out ?_
        refine wpAnyH_done (by kernel_rfl) ?_ _
        refine NoPanic.normal ?_
        have b9 := hw
        clear hw
        go_wp2_with fail
        have hB := Lib.hid (Nat.le_refl wc.heap.size)
        refine wp_region_noPanic ?_
        refine wp_region_held_drew (S := fun w' => Below wc.heap.size wc w') (by kernel_rfl) (b9.drew) (fun hH0 => ?_)
        refine sch_in [0, 1, 2, 3, 4, 5, 6, 7, 8, 9, 10, 11, 12, 13, 14, 15, 16, 17] ?_
        iterate 18 (refine sch_yes (v := ?_) rfl (by kernel_rfl) (by rfl) ?_ (by assumption) ?_; rotate_left 1; (· (intro w hSw; (try dsimp only at hSw); go_simp <;> (with_reducible rfl))); try simp only [Act.put, qA, qB, qC, qD, qE, qF])
        refine sch_out ?_
        refine wpAnyH_done (by kernel_rfl) ?_ _
        refine NoPanic.normal ?_
        have b12 := hH0
        clear hH0
        have hOz := World.ownsRow.drew (hO9.out)
        generalize (w'').drew = wz at hOz b12 ⊢
        go_wp2_with fail
        go_roundw
        case rel => exact ⟨k + 1, _, _, hlt, by go_num, rfl, hOz, b12, HN⟩
        case measure => simp [intOf]; omega
       ·have kk : (((a', s') : Key) == (a, s)) = false := beq_false_of_ne fun e => e1 (congrArg Prod.snd e)
        have HN : Hid ((fs ++ [((a', s'), (n', d'))]) ++ insB (ls.drop (k + 1)) false (a, s) (q1, q2) = R) := Lib.hid (by rw [← hF]; simp [kk])
        have qq0 : (a' == a) = true := by rw [beq_iff_eq]; assumption
        have qq1 : (s' == s) = false := beq_false_of_ne (by assumption)
        clear hF kk
        clear e0 e1
        go_wp2_with fail
        refine wp_region_noPanic ?_
        refine wp_region_held_drew (S := fun w' => Below wc.heap.size wc w') (by kernel_rfl) (hW.out.drew) (fun hH0 => ?_)
        refine sch_in [0, 1, 2, 3, 4, 5, 6, 7] ?_
        iterate 8 (refine sch_yes (v := ?_) rfl (by kernel_rfl) (by rfl) ?_ (by assumption) ?_; rotate_left 1; (· (intro w hSw; (try dsimp only at hSw); go_simp <;> (with_reducible rfl))); try simp only [Act.put, qA, qB, qC, qD, qE, qF])
        refine sch_out ?_
        refine wpAnyH_ready (rs := [8]) (by kernel_rfl) (by simp) ?_
        refine AllReadyH.cons rfl (fun K hK => ?_) AllReadyH.nil
        go_simp
        refine (held (W := wc) hB.out (CH.out _) (by assumption)).mono ?_
        rintro e w'' ⟨rfl, hb, hw⟩
        have hO9 := Lib.hid (own_below (B := wc.heap.size) (World.ownsRow.drew hO.out) hb)
        (try go_wp2_with fail)
        refine hK.out _ _ hw (fun hH1 => ?_)
        clear hK hH0 hb
        try simp only [Act.put, qA, qB, qC, qD, qE, qF]
        refine sch_in [9, 10] ?_
        iterate 2 (refine sch_yes (v := ?_) rfl (by kernel_rfl) (by rfl) ?_ (by assumption) ?_; rotate_left 1; (· (intro w hSw; (try dsimp only at hSw); go_simp <;> (with_reducible rfl))); try simp only [Act.put, qA, qB, qC, qD, qE, qF])
        refine sch_out ?_
        refine wpAnyH_done (by kernel_rfl) ?_ _
        refine NoPanic.normal ?_
        have b9 := hw
        clear hw
        go_wp2_with fail
        have hB := Lib.hid (Nat.le_refl wc.heap.size)
        refine wp_region_noPanic ?_
        refine wp_region_held_drew (S := fun w' => Below wc.heap.size wc w') (by kernel_rfl) (b9.drew) (fun hH0 => ?_)
        refine sch_in [0, 1, 2, 3, 4, 5, 6, 7, 8, 9, 10, 11, 12, 13, 14, 15, 16, 17] ?_
        iterate 18 (refine sch_yes (v := ?_) rfl (by kernel_rfl) (by rfl) ?_ (by assumption) ?_; rotate_left 1; (· (intro w hSw; (try dsimp only at hSw); go_simp <;> (with_reducible rfl))); try simp only [Act.put, qA, qB, qC, qD, qE, qF])
        refine sch_out ?_
        refine wpAnyH_done (by kernel_rfl) ?_ _
        refine NoPanic.normal ?_
        have b12 := hH0
        clear hH0
        have hOz := World.ownsRow.drew (hO9.out)
        generalize (w'').drew = wz at hOz b12 ⊢
        go_wp2_with (first | (at_builtin; refine wpList_append_own _ rfl _ _ 23 rfl wc.heap.size 46 i0 (.agg #[.string ⟨#[]⟩, .string ⟨#[]⟩, .string ⟨#[]⟩, .string ⟨#[]⟩]) 4 64 Tryz.underlying23 hi hz0 hz1 hz2 rfl (by decide) _ _ _ rfl (World.ownsRow.alloc (hOz) _) ⟨wz.heap.size, 0, none⟩ 1 1 [.string ⟨a'.toArray⟩, .string ⟨s'.toArray⟩, .string ⟨n'.toArray⟩, .string ⟨d'.toArray⟩] rfl rfl (cell_four _ _ _ _ _ _) (fun x hx => by simp at hx; rcases hx with rfl | rfl | rfl | rfl <;> rfl) (by unfold maxLen; omega) (by omega) (by have := Below.size (b12); simp; omega) ?_; intro v4 w4 hown' hgrow' hnil'; have hbw' : Below wc.heap.size wc w4 := Below.grown (Below.alloc (b12) (Below.size (b12)) _) hgrow' (by have := Below.size (b12); simp; omega) (fun j hj => (World.ownsRow.lt (hOz) _ hj).1); have X4 : Hid (Own wc.heap.size w4 v4 (fs ++ [((a', s'), (n', d'))]) ∧ Below wc.heap.size wc w4) := Lib.hid ⟨own_snoc hown', hbw'⟩; clear hown' hgrow' hnil' hbw'))
        go_roundw
        case rel => exact ⟨k + 1, _, _, hlt, by go_num, rfl, X4.out.1, X4.out.2, HN⟩
        case measure => simp [intOf]; omega
      ·have kk : (((a', s') : Key) == (a, s)) = false := beq_false_of_ne fun e => e0 (congrArg Prod.fst e)
       have HN : Hid ((fs ++ [((a', s'), (n', d'))]) ++ insB (ls.drop (k + 1)) false (a, s) (q1, q2) = R) := Lib.hid (by rw [← hF]; simp [kk])
       have qq0 : (a' == a) = false := beq_false_of_ne (by assumption)
       clear hF kk
       clear e0
       go_wp2_with fail
       refine wp_region_noPanic ?_
       refine wp_region_held_drew (S := fun w' => Below wc.heap.size wc w') (by kernel_rfl) (hW.out.drew) (fun hH0 => ?_)
       refine sch_in [0, 1, 2, 3, 4, 5, 6, 7] ?_
       iterate 8 (refine sch_yes (v := ?_) rfl (by kernel_rfl) (by rfl) ?_ (by assumption) ?_; rotate_left 1; (· (intro w hSw; (try dsimp only at hSw); go_simp <;> (with_reducible rfl))); try simp only [Act.put, qA, qB, qC, qD, qE, qF])
       refine sch_out ?_
       refine wpAnyH_ready (rs := [8]) (by kernel_rfl) (by simp) ?_
       refine AllReadyH.cons rfl (fun K hK => ?_) AllReadyH.nil
       go_simp
       refine (held (W := wc) hB.out (CH.out _) (by assumption)).mono ?_
       rintro e w'' ⟨rfl, hb, hw⟩
       have hO9 := Lib.hid (own_below (B := wc.heap.size) (World.ownsRow.drew hO.out) hb)
       (try go_wp2_with fail)
       refine hK.out _ _ hw (fun hH1 => ?_)
       clear hK hH0 hb
       try simp only [Act.put, qA, qB, qC, qD, qE, qF]
       refine sch_in [9, 10] ?_
       iterate 2 (refine sch_yes (v := ?_) rfl (by kernel_rfl) (by rfl) ?_ (by assumption) ?_; rotate_left 1; (· (intro w hSw; (try dsimp only at hSw); go_simp <;> (with_reducible rfl))); try simp only [Act.put, qA, qB, qC, qD, qE, qF])
       refine sch_out ?_
       refine wpAnyH_done (by kernel_rfl) ?_ _
       refine NoPanic.normal ?_
       have b9 := hw
       clear hw
       go_wp2_with fail
       have hB := Lib.hid (Nat.le_refl wc.heap.size)
       refine wp_region_noPanic ?_
       refine wp_region_held_drew (S := fun w' => Below wc.heap.size wc w') (by kernel_rfl) (b9.drew) (fun hH0 => ?_)
       refine sch_in [0, 1, 2, 3, 4, 5, 6, 7, 8, 9, 10, 11, 12, 13, 14, 15, 16, 17] ?_
       iterate 18 (first | (refine sch_no rfl (by kernel_rfl) (by rfl) (by assumption) ?_; try simp only [Act.put, qA, qB, qC, qD, qE, qF]) | (refine sch_yes (v := ?_) rfl (by kernel_rfl) (by rfl) ?_ (by assumption) ?_; rotate_left 1; (· (intro w hSw; (try dsimp only at hSw); go_simp <;> (with_reducible rfl))); try simp only [Act.put, qA, qB, qC, qD, qE, qF]))
       refine sch_out ?_
       refine wpAnyH_done (by kernel_rfl) ?_ _
       refine NoPanic.normal ?_
       have b12 := hH0
       clear hH0
       have hOz := World.ownsRow.drew (hO9.out)
       generalize (w'').drew = wz at hOz b12 ⊢
       go_wp2_with (first | (at_builtin; refine wpList_append_own _ rfl _ _ 23 rfl wc.heap.size 46 i0 (.agg #[.string ⟨#[]⟩, .string ⟨#[]⟩, .string ⟨#[]⟩, .string ⟨#[]⟩]) 4 64 Tryz.underlying23 hi hz0 hz1 hz2 rfl (by decide) _ _ _ rfl (World.ownsRow.alloc (hOz) _) ⟨wz.heap.size, 0, none⟩ 1 1 [.string ⟨a'.toArray⟩, .string ⟨s'.toArray⟩, .string ⟨n'.toArray⟩, .string ⟨d'.toArray⟩] rfl rfl (cell_four _ _ _ _ _ _) (fun x hx => by simp at hx; rcases hx with rfl | rfl | rfl | rfl <;> rfl) (by unfold maxLen; omega) (by omega) (by have := Below.size (b12); simp; omega) ?_; intro v4 w4 hown' hgrow' hnil'; have hbw' : Below wc.heap.size wc w4 := Below.grown (Below.alloc (b12) (Below.size (b12)) _) hgrow' (by have := Below.size (b12); simp; omega) (fun j hj => (World.ownsRow.lt (hOz) _ hj).1); have X4 : Hid (Own wc.heap.size w4 v4 (fs ++ [((a', s'), (n', d'))]) ∧ Below wc.heap.size wc w4) := Lib.hid ⟨own_snoc hown', hbw'⟩; clear hown' hgrow' hnil' hbw'))
       go_roundw
       case rel => exact ⟨k + 1, _, _, hlt, by go_num, rfl, X4.out.1, X4.out.2, HN⟩
       case measure => simp [intOf]; omega
     | false =>
      rw [h3] at ch hF
      rw [show (!false && !false) = true from rfl, show (false || !false) = true from rfl, if_pos rfl] at hF
      have CH := Lib.hid ch; clear ch h3
      by_cases e0 : a' = a
      ·by_cases e1 : s' = s
       ·have kk : (((a', s') : Key) == (a, s)) = true := by rw [e0, e1]; exact beq_self_eq_true _
        have HN : Hid ((fs ++ [((a, s), (q1, q2))]) ++ insB (ls.drop (k + 1)) true (a, s) (q1, q2) = R) := Lib.hid (by rw [← hF]; simp [kk])
        have qq0 : (a' == a) = true := by rw [beq_iff_eq]; assumption
        have qq1 : (s' == s) = true := by rw [beq_iff_eq]; assumption
        clear hF kk
        clear e0 e1
        go_wp2_with fail
        refine wp_region_noPanic ?_
        refine wp_region_held_drew (S := fun w' => Below wc.heap.size wc w') (by kernel_rfl) (hW.out.drew) (fun hH0 => ?_)
        refine sch_in [0, 1, 2, 3, 4, 5, 6, 7] ?_
        iterate 8 (refine sch_yes (v := ?_) rfl (by kernel_rfl) (by rfl) ?_ (by assumption) ?_; rotate_left 1; (· (intro w hSw; (try dsimp only at hSw); go_simp <;> (with_reducible rfl))); try simp only [Act.put, qA, qB, qC, qD, qE, qF])
        refine sch_out ?_
        refine wpAnyH_ready (rs := [8]) (by kernel_rfl) (by simp) ?_
        refine AllReadyH.cons rfl (fun K hK => ?_) AllReadyH.nil
        go_simp
        refine (held (W := wc) hB.out (CH.out _) (by assumption)).mono ?_
        rintro e w'' ⟨rfl, hb, hw⟩
        have hO9 := Lib.hid (own_below (B := wc.heap.size) (World.ownsRow.drew hO.out) hb)
        (try go_wp2_with fail)
        refine hK.out _ _ hw (fun hH1 => ?_)
        clear hK hH0 hb
        try simp only [Act.put, qA, qB, qC, qD, qE, qF]
        refine sch_in [9, 10] ?_
        iterate 2 (refine sch_yes (v := ?_) rfl (by kernel_rfl) (by rfl) ?_ (by assumption) ?_; rotate_left 1; (· (intro w hSw; (try dsimp only at hSw); go_simp <;> (with_reducible rfl))); try simp only [Act.put, qA, qB, qC, qD, qE, qF])
        refine sch_out ?_
        refine wpAnyH_done (by kernel_rfl) ?_ _
        refine NoPanic.normal ?_
        have b9 := hw
        clear hw
        go_wp2_with (first | (at_builtin; refine wpList_append_own _ rfl _ _ 23 rfl wc.heap.size 46 i0 (.agg #[.string ⟨#[]⟩, .string ⟨#[]⟩, .string ⟨#[]⟩, .string ⟨#[]⟩]) 4 64 Tryz.underlying23 hi hz0 hz1 hz2 rfl (by decide) _ _ _ rfl (World.ownsRow.alloc (hO9.out) _) ⟨w''.heap.size, 0, none⟩ 1 1 [.string ⟨a.toArray⟩, .string ⟨s.toArray⟩, .string ⟨q1.toArray⟩, .string ⟨q2.toArray⟩] rfl rfl (cell_four _ _ _ _ _ _) (fun x hx => by simp at hx; rcases hx with rfl | rfl | rfl | rfl <;> rfl) (by unfold maxLen; omega) (by omega) (by have := Below.size (b9); simp; omega) ?_; intro v3 w3 hown' hgrow' hnil'; have hbw' : Below wc.heap.size wc w3 := Below.grown (Below.alloc (b9) (Below.size (b9)) _) hgrow' (by have := Below.size (b9); simp; omega) (fun j hj => (World.ownsRow.lt (hO9.out) _ hj).1); have X3 : Hid (Own wc.heap.size w3 v3 (fs ++ [((a, s), (q1, q2))]) ∧ Below wc.heap.size wc w3) := Lib.hid ⟨own_snoc hown', hbw'⟩; clear hown' hgrow' hnil' hbw'))
        have hfl2 : (fs ++ [((a, s), (q1, q2))]).length ≤ 2000002 := by rw [List.length_append]; exact Nat.succ_le_succ hfl
        have hB := Lib.hid (Nat.le_refl wc.heap.size)
        refine wp_region_noPanic ?_
        refine wp_region_held_drew (S := fun w' => Below wc.heap.size wc w') (by kernel_rfl) (X3.out.2.drew) (fun hH0 => ?_)
        refine sch_in [0, 1, 2, 3, 4, 5, 6, 7, 8, 9, 10, 11, 12, 13, 14, 15, 16, 17] ?_
        iterate 18 (refine sch_yes (v := ?_) rfl (by kernel_rfl) (by rfl) ?_ (by assumption) ?_; rotate_left 1; (· (intro w hSw; (try dsimp only at hSw); go_simp <;> (with_reducible rfl))); try simp only [Act.put, qA, qB, qC, qD, qE, qF])
        refine sch_out ?_
        refine wpAnyH_done (by kernel_rfl) ?_ _
        refine NoPanic.normal ?_
        have b12 := hH0
        clear hH0
        have hOz := World.ownsRow.drew (X3.out.1)
        generalize (w3).drew = wz at hOz b12 ⊢
        go_wp2_with fail
        go_roundw
        case rel => exact ⟨k + 1, _, _, hlt, by go_num, rfl, hOz, b12, HN⟩
        case measure => simp [intOf]; omega
       ·have kk : (((a', s') : Key) == (a, s)) = false := beq_false_of_ne fun e => e1 (congrArg Prod.snd e)
        have HN : Hid (((fs ++ [((a, s), (q1, q2))]) ++ [((a', s'), (n', d'))]) ++ insB (ls.drop (k + 1)) true (a, s) (q1, q2) = R) := Lib.hid (by rw [← hF]; simp [kk])
        have qq0 : (a' == a) = true := by rw [beq_iff_eq]; assumption
        have qq1 : (s' == s) = false := beq_false_of_ne (by assumption)
        clear hF kk
        clear e0 e1
        go_wp2_with fail
        refine wp_region_noPanic ?_
        refine wp_region_held_drew (S := fun w' => Below wc.heap.size wc w') (by kernel_rfl) (hW.out.drew) (fun hH0 => ?_)
        refine sch_in [0, 1, 2, 3, 4, 5, 6, 7] ?_
        iterate 8 (refine sch_yes (v := ?_) rfl (by kernel_rfl) (by rfl) ?_ (by assumption) ?_; rotate_left 1; (· (intro w hSw; (try dsimp only at hSw); go_simp <;> (with_reducible rfl))); try simp only [Act.put, qA, qB, qC, qD, qE, qF])
        refine sch_out ?_
        refine wpAnyH_ready (rs := [8]) (by kernel_rfl) (by simp) ?_
        refine AllReadyH.cons rfl (fun K hK => ?_) AllReadyH.nil
        go_simp
        refine (held (W := wc) hB.out (CH.out _) (by assumption)).mono ?_
        rintro e w'' ⟨rfl, hb, hw⟩
        have hO9 := Lib.hid (own_below (B := wc.heap.size) (World.ownsRow.drew hO.out) hb)
        (try go_wp2_with fail)
        refine hK.out _ _ hw (fun hH1 => ?_)
        clear hK hH0 hb
        try simp only [Act.put, qA, qB, qC, qD, qE, qF]
        refine sch_in [9, 10] ?_
        iterate 2 (refine sch_yes (v := ?_) rfl (by kernel_rfl) (by rfl) ?_ (by assumption) ?_; rotate_left 1; (· (intro w hSw; (try dsimp only at hSw); go_simp <;> (with_reducible rfl))); try simp only [Act.put, qA, qB, qC, qD, qE, qF])
        refine sch_out ?_
        refine wpAnyH_done (by kernel_rfl) ?_ _
        refine NoPanic.normal ?_
        have b9 := hw
        clear hw
        go_wp2_with (first | (at_builtin; refine wpList_append_own _ rfl _ _ 23 rfl wc.heap.size 46 i0 (.agg #[.string ⟨#[]⟩, .string ⟨#[]⟩, .string ⟨#[]⟩, .string ⟨#[]⟩]) 4 64 Tryz.underlying23 hi hz0 hz1 hz2 rfl (by decide) _ _ _ rfl (World.ownsRow.alloc (hO9.out) _) ⟨w''.heap.size, 0, none⟩ 1 1 [.string ⟨a.toArray⟩, .string ⟨s.toArray⟩, .string ⟨q1.toArray⟩, .string ⟨q2.toArray⟩] rfl rfl (cell_four _ _ _ _ _ _) (fun x hx => by simp at hx; rcases hx with rfl | rfl | rfl | rfl <;> rfl) (by unfold maxLen; omega) (by omega) (by have := Below.size (b9); simp; omega) ?_; intro v3 w3 hown' hgrow' hnil'; have hbw' : Below wc.heap.size wc w3 := Below.grown (Below.alloc (b9) (Below.size (b9)) _) hgrow' (by have := Below.size (b9); simp; omega) (fun j hj => (World.ownsRow.lt (hO9.out) _ hj).1); have X3 : Hid (Own wc.heap.size w3 v3 (fs ++ [((a, s), (q1, q2))]) ∧ Below wc.heap.size wc w3) := Lib.hid ⟨own_snoc hown', hbw'⟩; clear hown' hgrow' hnil' hbw'))
        have hfl2 : (fs ++ [((a, s), (q1, q2))]).length ≤ 2000002 := by rw [List.length_append]; exact Nat.succ_le_succ hfl
        have hB := Lib.hid (Nat.le_refl wc.heap.size)
        refine wp_region_noPanic ?_
        refine wp_region_held_drew (S := fun w' => Below wc.heap.size wc w') (by kernel_rfl) (X3.out.2.drew) (fun hH0 => ?_)
        refine sch_in [0, 1, 2, 3, 4, 5, 6, 7, 8, 9, 10, 11, 12, 13, 14, 15, 16, 17] ?_
        iterate 18 (refine sch_yes (v := ?_) rfl (by kernel_rfl) (by rfl) ?_ (by assumption) ?_; rotate_left 1; (· (intro w hSw; (try dsimp only at hSw); go_simp <;> (with_reducible rfl))); try simp only [Act.put, qA, qB, qC, qD, qE, qF])
        refine sch_out ?_
        refine wpAnyH_done (by kernel_rfl) ?_ _
        refine NoPanic.normal ?_
        have b12 := hH0
        clear hH0
        have hOz := World.ownsRow.drew (X3.out.1)
        generalize (w3).drew = wz at hOz b12 ⊢
        go_wp2_with (first | (at_builtin; refine wpList_append_own _ rfl _ _ 23 rfl wc.heap.size 46 i0 (.agg #[.string ⟨#[]⟩, .string ⟨#[]⟩, .string ⟨#[]⟩, .string ⟨#[]⟩]) 4 64 Tryz.underlying23 hi hz0 hz1 hz2 rfl (by decide) _ _ _ rfl (World.ownsRow.alloc (hOz) _) ⟨wz.heap.size, 0, none⟩ 1 1 [.string ⟨a'.toArray⟩, .string ⟨s'.toArray⟩, .string ⟨n'.toArray⟩, .string ⟨d'.toArray⟩] rfl rfl (cell_four _ _ _ _ _ _) (fun x hx => by simp at hx; rcases hx with rfl | rfl | rfl | rfl <;> rfl) (by unfold maxLen; omega) (by omega) (by have := Below.size (b12); simp; omega) ?_; intro v4 w4 hown' hgrow' hnil'; have hbw' : Below wc.heap.size wc w4 := Below.grown (Below.alloc (b12) (Below.size (b12)) _) hgrow' (by have := Below.size (b12); simp; omega) (fun j hj => (World.ownsRow.lt (hOz) _ hj).1); have X4 : Hid (Own wc.heap.size w4 v4 ((fs ++ [((a, s), (q1, q2))]) ++ [((a', s'), (n', d'))]) ∧ Below wc.heap.size wc w4) := Lib.hid ⟨own_snoc hown', hbw'⟩; clear hown' hgrow' hnil' hbw'))
        go_roundw
        case rel => exact ⟨k + 1, _, _, hlt, by go_num, rfl, X4.out.1, X4.out.2, HN⟩
        case measure => simp [intOf]; omega
      ·have kk : (((a', s') : Key) == (a, s)) = false := beq_false_of_ne fun e => e0 (congrArg Prod.fst e)
       have HN : Hid (((fs ++ [((a, s), (q1, q2))]) ++ [((a', s'), (n', d'))]) ++ insB (ls.drop (k + 1)) true (a, s) (q1, q2) = R) := Lib.hid (by rw [← hF]; simp [kk])
       have qq0 : (a' == a) = false := beq_false_of_ne (by assumption)
       clear hF kk
       clear e0
       go_wp2_with fail
       refine wp_region_noPanic ?_
       refine wp_region_held_drew (S := fun w' => Below wc.heap.size wc w') (by kernel_rfl) (hW.out.drew) (fun hH0 => ?_)
       refine sch_in [0, 1, 2, 3, 4, 5, 6, 7] ?_
       iterate 8 (refine sch_yes (v := ?_) rfl (by kernel_rfl) (by rfl) ?_ (by assumption) ?_; rotate_left 1; (· (intro w hSw; (try dsimp only at hSw); go_simp <;> (with_reducible rfl))); try simp only [Act.put, qA, qB, qC, qD, qE, qF])
       refine sch_out ?_
       refine wpAnyH_ready (rs := [8]) (by kernel_rfl) (by simp) ?_
       refine AllReadyH.cons rfl (fun K hK => ?_) AllReadyH.nil
       go_simp
       refine (held (W := wc) hB.out (CH.out _) (by assumption)).mono ?_
       rintro e w'' ⟨rfl, hb, hw⟩
       have hO9 := Lib.hid (own_below (B := wc.heap.size) (World.ownsRow.drew hO.out) hb)
       (try go_wp2_with fail)
       refine hK.out _ _ hw (fun hH1 => ?_)
       clear hK hH0 hb
       try simp only [Act.put, qA, qB, qC, qD, qE, qF]
       refine sch_in [9, 10] ?_
       iterate 2 (refine sch_yes (v := ?_) rfl (by kernel_rfl) (by rfl) ?_ (by assumption) ?_; rotate_left 1; (· (intro w hSw; (try dsimp only at hSw); go_simp <;> (with_reducible rfl))); try simp only [Act.put, qA, qB, qC, qD, qE, qF])
       refine sch_out ?_
       refine wpAnyH_done (by kernel_rfl) ?_ _
       refine NoPanic.normal ?_
       have b9 := hw
       clear hw
       go_wp2_with (first | (at_builtin; refine wpList_append_own _ rfl _ _ 23 rfl wc.heap.size 46 i0 (.agg #[.string ⟨#[]⟩, .string ⟨#[]⟩, .string ⟨#[]⟩, .string ⟨#[]⟩]) 4 64 Tryz.underlying23 hi hz0 hz1 hz2 rfl (by decide) _ _ _ rfl (World.ownsRow.alloc (hO9.out) _) ⟨w''.heap.size, 0, none⟩ 1 1 [.string ⟨a.toArray⟩, .string ⟨s.toArray⟩, .string ⟨q1.toArray⟩, .string ⟨q2.toArray⟩] rfl rfl (cell_four _ _ _ _ _ _) (fun x hx => by simp at hx; rcases hx with rfl | rfl | rfl | rfl <;> rfl) (by unfold maxLen; omega) (by omega) (by have := Below.size (b9); simp; omega) ?_; intro v3 w3 hown' hgrow' hnil'; have hbw' : Below wc.heap.size wc w3 := Below.grown (Below.alloc (b9) (Below.size (b9)) _) hgrow' (by have := Below.size (b9); simp; omega) (fun j hj => (World.ownsRow.lt (hO9.out) _ hj).1); have X3 : Hid (Own wc.heap.size w3 v3 (fs ++ [((a, s), (q1, q2))]) ∧ Below wc.heap.size wc w3) := Lib.hid ⟨own_snoc hown', hbw'⟩; clear hown' hgrow' hnil' hbw'))
       have hfl2 : (fs ++ [((a, s), (q1, q2))]).length ≤ 2000002 := by rw [List.length_append]; exact Nat.succ_le_succ hfl
       have hB := Lib.hid (Nat.le_refl wc.heap.size)
       refine wp_region_noPanic ?_
       refine wp_region_held_drew (S := fun w' => Below wc.heap.size wc w') (by kernel_rfl) (X3.out.2.drew) (fun hH0 => ?_)
       refine sch_in [0, 1, 2, 3, 4, 5, 6, 7, 8, 9, 10, 11, 12, 13, 14, 15, 16, 17] ?_
       iterate 18 (first | (refine sch_no rfl (by kernel_rfl) (by rfl) (by assumption) ?_; try simp only [Act.put, qA, qB, qC, qD, qE, qF]) | (refine sch_yes (v := ?_) rfl (by kernel_rfl) (by rfl) ?_ (by assumption) ?_; rotate_left 1; (· (intro w hSw; (try dsimp only at hSw); go_simp <;> (with_reducible rfl))); try simp only [Act.put, qA, qB, qC, qD, qE, qF]))
       refine sch_out ?_
       refine wpAnyH_done (by kernel_rfl) ?_ _
       refine NoPanic.normal ?_
       have b12 := hH0
       clear hH0
       have hOz := World.ownsRow.drew (X3.out.1)
       generalize (w3).drew = wz at hOz b12 ⊢
       go_wp2_with (first | (at_builtin; refine wpList_append_own _ rfl _ _ 23 rfl wc.heap.size 46 i0 (.agg #[.string ⟨#[]⟩, .string ⟨#[]⟩, .string ⟨#[]⟩, .string ⟨#[]⟩]) 4 64 Tryz.underlying23 hi hz0 hz1 hz2 rfl (by decide) _ _ _ rfl (World.ownsRow.alloc (hOz) _) ⟨wz.heap.size, 0, none⟩ 1 1 [.string ⟨a'.toArray⟩, .string ⟨s'.toArray⟩, .string ⟨n'.toArray⟩, .string ⟨d'.toArray⟩] rfl rfl (cell_four _ _ _ _ _ _) (fun x hx => by simp at hx; rcases hx with rfl | rfl | rfl | rfl <;> rfl) (by unfold maxLen; omega) (by omega) (by have := Below.size (b12); simp; omega) ?_; intro v4 w4 hown' hgrow' hnil'; have hbw' : Below wc.heap.size wc w4 := Below.grown (Below.alloc (b12) (Below.size (b12)) _) hgrow' (by have := Below.size (b12); simp; omega) (fun j hj => (World.ownsRow.lt (hOz) _ hj).1); have X4 : Hid (Own wc.heap.size w4 v4 ((fs ++ [((a, s), (q1, q2))]) ++ [((a', s'), (n', d'))]) ∧ Below wc.heap.size wc w4) := Lib.hid ⟨own_snoc hown', hbw'⟩; clear hown' hgrow' hnil' hbw'))
       go_roundw
       case rel => exact ⟨k + 1, _, _, hlt, by go_num, rfl, X4.out.1, X4.out.2, HN⟩
       case measure => simp [intOf]; omega
   ·obtain rfl : k = ls.length := by omega
    have hF := HF.out
    rw [List.drop_length] at hF
    have hfl : fs.length ≤ 2000001 := by
     have e := congrArg List.length HF.out
     rw [List.length_append] at e
     have e2 := ins_len ls (z == 0) (a, s) (q1, q2)
     rw [hR] at e2
     omega
    have hO := Lib.hid hown; have hW := Lib.hid hbw
    clear hown hbw HF
    cases lb with
    | true =>
     have hF : fs = R := by rw [← hF]; exact (List.append_nil _).symm
     clear hR
     subst hF
     go_wp2_with fail
     refine bodyPost_ret (v := .tuple #[u7, .bool true]) (by simp [results, Tryz.results23, go_sem, *]) rfl ?_
     exact giveLBF hO.out (Below.size BW) (Below.more BW hW.out)
    | false =>
     have hF : fs ++ [((a, s), (q1, q2))] = R := hF
     clear hR
     have b9 := hW.out
     subst hF
     go_wp2_with (first | (at_builtin; refine wpList_append_own _ rfl _ _ 23 rfl wc.heap.size 46 i0 (.agg #[.string ⟨#[]⟩, .string ⟨#[]⟩, .string ⟨#[]⟩, .string ⟨#[]⟩]) 4 64 Tryz.underlying23 hi hz0 hz1 hz2 rfl (by decide) _ _ _ rfl (World.ownsRow.alloc (hO.out) _) ⟨wr.heap.size, 0, none⟩ 1 1 [.string ⟨a.toArray⟩, .string ⟨s.toArray⟩, .string ⟨q1.toArray⟩, .string ⟨q2.toArray⟩] rfl rfl (cell_four _ _ _ _ _ _) (fun x hx => by simp at hx; rcases hx with rfl | rfl | rfl | rfl <;> rfl) (by unfold maxLen; omega) (by omega) (by have := Below.size (hW.out); simp; omega) ?_; intro v3 w3 hown' hgrow' hnil'; have hbw' : Below wc.heap.size wc w3 := Below.grown (Below.alloc (hW.out) (Below.size (hW.out)) _) hgrow' (by have := Below.size (hW.out); simp; omega) (fun j hj => (World.ownsRow.lt (hO.out) _ hj).1); have X3 : Hid (Own wc.heap.size w3 v3 (fs ++ [((a, s), (q1, q2))]) ∧ Below wc.heap.size wc w3) := Lib.hid ⟨own_snoc hown', hbw'⟩; clear hown' hgrow' hnil' hbw'))
     refine bodyPost_ret (v := .tuple #[v3, .bool true]) (by simp [results, Tryz.results23, go_sem, *]) rfl ?_
     exact giveLBF X3.out.1 (Below.size BW) (Below.more BW X3.out.2)
end Go.Proofs.YtagfndkfjbbpjaaGreatDoor
/- Two local blocks that are followed by name through a drawn region. -/
namespace Go.Proofs.YtagfndkfjbbpjaaGreatDoor
open Go.RowKit
set_option linter.unusedSimpArgs false
set_option linter.unusedVariables false
theorem zc_up {b : Nat} {x y : Value} {v : World} (h : Zc b x y v) (c : Obj) : Zc b x y (v.alloc c) :=
 h.below (Below.alloc (Below.refl _ _) (Nat.le_refl _) _)
theorem zc_is {b : Nat} {w : World} (h : b = w.heap.size) (x y : Value) (t : TypeId) : Zc b x y (w.alloc (.cells #[x, y] t)) := h ▸ zc_new w x y t
theorem zc_far {b c : Nat} {x y s t : Value} {v : World} (hn : b ≠ c) (h : Zc b x y v) : Zc b x y ((v.setCell ⟨c, 0, none⟩ s).setCell ⟨c, 1, none⟩ t) := by
 have k : ∀ (u : World) (i j : Nat) (z : Value), (u.setCell ⟨c, i, none⟩ z).cell? ⟨b, j, none⟩ = u.cell? ⟨b, j, none⟩ := fun u i j z => World.cell?_setCell_far _ _ _ _ (fun e => hn e.symm)
 refine ⟨?_, ?_, ?_, ?_, ?_⟩
 ·rw [k, k]; exact h.c0
 ·rw [k, k]; exact h.c1
 ·simpa using h.f0
 ·simpa using h.f1
 ·simpa using h.lt
theorem zc_low {u v : World} {x y s t : Value} {ty ty' : TypeId} (hb : Below ((u.alloc (.cells #[x, y] ty)).alloc (.cells #[s, t] ty')).heap.size ((u.alloc (.cells #[x, y] ty)).alloc (.cells #[s, t] ty')) v) : Zc u.heap.size x y v :=
 (zc_up (zc_new u x y ty) _).below hb
theorem low_top {u v : World} {x y s t : Value} {ty ty' : TypeId} (hb : Below ((u.alloc (.cells #[x, y] ty)).alloc (.cells #[s, t] ty')).heap.size ((u.alloc (.cells #[x, y] ty)).alloc (.cells #[s, t] ty')) v) : u.heap.size < u.heap.size + 1 := Nat.lt_succ_self _
theorem zc_top {u v : World} {x y s t : Value} {ty ty' : TypeId} (hb : Below ((u.alloc (.cells #[x, y] ty)).alloc (.cells #[s, t] ty')).heap.size ((u.alloc (.cells #[x, y] ty)).alloc (.cells #[s, t] ty')) v) : Zc (u.heap.size + 1) s t v :=
 (zc_is (by simp) s t ty').below hb
theorem zc_madeD {u v : World} {x y : Value} {t : TypeId} (hb : Below (u.alloc (.cells #[x, y] t)).drew.heap.size (u.alloc (.cells #[x, y] t)).drew v) : Zc u.heap.size x y v := (zc_new u x y t).drew.below hb
theorem zc_lowD {u v : World} {x y s t : Value} {ty ty' : TypeId} (hb : Below ((u.alloc (.cells #[x, y] ty)).alloc (.cells #[s, t] ty')).drew.heap.size ((u.alloc (.cells #[x, y] ty)).alloc (.cells #[s, t] ty')).drew v) : Zc u.heap.size x y v :=
 (zc_up (zc_new u x y ty) _).drew.below hb
theorem low_topD {u v : World} {x y s t : Value} {ty ty' : TypeId} (hb : Below ((u.alloc (.cells #[x, y] ty)).alloc (.cells #[s, t] ty')).drew.heap.size ((u.alloc (.cells #[x, y] ty)).alloc (.cells #[s, t] ty')).drew v) : u.heap.size < u.heap.size + 1 := Nat.lt_succ_self _
theorem zc_topD {u v : World} {x y s t : Value} {ty ty' : TypeId} (hb : Below ((u.alloc (.cells #[x, y] ty)).alloc (.cells #[s, t] ty')).drew.heap.size ((u.alloc (.cells #[x, y] ty)).alloc (.cells #[s, t] ty')).drew v) : Zc (u.heap.size + 1) s t v :=
 (zc_is (by simp) s t ty').drew.below hb
theorem zc_setZ {b : Nat} {x y : Value} {v : World} (h : Zc b (.string ⟨#[]⟩) (.string ⟨#[]⟩) v) : Zc b x y ((v.setCell ⟨b, 0, none⟩ x).setCell ⟨b, 1, none⟩ y) := zc_put h
theorem up_alloc {u w : World} (h : Below u.heap.size u w) (o : Obj) : Below u.heap.size u (w.alloc o) := Below.alloc h (Below.size h) o
end Go.Proofs.YtagfndkfjbbpjaaGreatDoor
