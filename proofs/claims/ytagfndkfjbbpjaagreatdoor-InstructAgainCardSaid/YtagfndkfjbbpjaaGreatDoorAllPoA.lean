/- Plain words of the program's posting: lines gathered by account and asset, in order; who falls short. Own work; no program text. -/
import Derived.Deep.CutRange
import Derived.Lib.BufferMore
import Derived.Test.YtagfndkfjbbpjaaGreatDoorPostNum
import Derived.Test.YtagfndkfjbbpjaaGreatDoorAllRefB5
import Derived.Test.YtagfndkfjbbpjaaGreatDoorAllBk1
import Derived.Test.YtagfndkfjbbpjaaGreatDoorSch
import Derived.Test.YtagfndkfjbbpjaaGreatDoorAllRefB3
import Derived.Test.YtagfndkfjbbpjaaGreatDoorRowCells
namespace Go.Proofs.YtagfndkfjbbpjaaGreatDoor
def sumV (L : List Ln) : Rat := L.foldr (fun x s => valR x.2 + s) 0
theorem sumV_cons (x : Ln) (r : List Ln) : sumV (x :: r) = valR x.2 + sumV r := rfl
theorem sumL_rd {L : List Ln} (h : ∀ x ∈ L, isR x.2 = true) : sumL L = rd (sumV L) := sum_total h
theorem sumK_all {k : Key} : ∀ {G : List Ln}, (∀ x ∈ G, x.1 = k) → sumK G k = sumV G
 | [], _ => rfl
 | x :: r, h => by
  rw [sumK_cons, sumV_cons, if_pos (h x (List.mem_cons_self ..)), sumK_all fun y hy => h y (List.mem_cons_of_mem _ hy)]
theorem sumK_none {k : Key} : ∀ {G : List Ln}, (∀ x ∈ G, x.1 ≠ k) → sumK G k = 0
 | [], _ => rfl
 | x :: r, h => by
  rw [sumK_cons, if_neg (h x (List.mem_cons_self ..)), sumK_none fun y hy => h y (List.mem_cons_of_mem _ hy), Rat.zero_add]
theorem sumK_mem {G : List Ln} {k : Key} (h : sumK G k ≠ 0) : ∃ x ∈ G, x.1 = k := by
 by_cases c : ∃ x ∈ G, x.1 = k
 ·exact c
 ·exact absurd (sumK_none fun x hx e => c ⟨x, hx, e⟩) h
theorem sumK_perm {l m : List Ln} (h : l.Perm m) (k : Key) : sumK l k = sumK m k := by
 induction h with
 | nil => rfl
 | cons x _ ih => rw [sumK_cons, sumK_cons, ih]
 | swap x y r => rw [sumK_cons, sumK_cons, sumK_cons, sumK_cons]; grind
 | trans _ _ i1 i2 => rw [i1, i2]
theorem has_sumK {ls : List Ln} (h : Good ls) (k : Key) : hasQ ls k = sumK ls k := by
 obtain ⟨A, M, C, rfl, hA, hC, hM⟩ := parts h.2 k
 have nA : lineOf A k = none := of_none fun x hx => ahead_ne (hA x hx)
 have nC : lineOf C k = none := of_none fun x hx => (ahead_ne (hC x hx)).symm
 rw [sumK_append, sumK_append, sumK_none fun x hx => ahead_ne (hA x hx), sumK_none fun x hx => (ahead_ne (hC x hx)).symm]
 unfold hasQ
 rw [of_append, of_append, nA, nC]
 rcases hM with rfl | ⟨p, rfl⟩
 ·show (0 : Rat) = 0 + (0 + 0); grind
 ·have : lineOf [(k, p)] k = some (k, p) := by unfold lineOf; rw [List.find?_cons, beq_self_eq_true]
  rw [this, sumK_cons, if_pos rfl]
  show valR p = 0 + (valR p + 0 + 0); grind
def SortedK (d : List Ln) : Prop := d.Pairwise fun x y => aheadK y.1 x.1 = false
def manyL (l : List Ln) : Nat := match l with
 | [] => 0
 | x :: _ => (l.takeWhile fun y => y.1 == x.1).length
theorem many_pos {x : Ln} {r : List Ln} : 0 < manyL (x :: r) := by
 show 0 < ((x :: r).takeWhile fun y => y.1 == x.1).length
 rw [List.takeWhile_cons, beq_self_eq_true]; exact Nat.succ_pos _
theorem many_le (l : List Ln) : manyL l ≤ l.length := by
 cases l with
 | nil => exact Nat.le_refl _
 | cons x r => exact List.Sublist.length_le (List.takeWhile_sublist _)
theorem many_take {x : Ln} {r : List Ln} : (x :: r).take (manyL (x :: r)) = (x :: r).takeWhile fun y => y.1 == x.1 := by
 show (x :: r).take ((x :: r).takeWhile fun y => y.1 == x.1).length = _
 have e := List.takeWhile_append_dropWhile (p := fun y : Ln => y.1 == x.1) (l := x :: r)
 conv => lhs; arg 2; rw [← e]
 exact List.take_left
theorem many_drop {x : Ln} {r : List Ln} : (x :: r).drop (manyL (x :: r)) = (x :: r).dropWhile fun y => y.1 == x.1 := by
 show (x :: r).drop ((x :: r).takeWhile fun y => y.1 == x.1).length = _
 have e := List.takeWhile_append_dropWhile (p := fun y : Ln => y.1 == x.1) (l := x :: r)
 conv => lhs; arg 2; rw [← e]
 exact List.drop_left
theorem many_same {x : Ln} {r : List Ln} : ∀ y ∈ (x :: r).take (manyL (x :: r)), y.1 = x.1 := fun y hy => by
 rw [many_take] at hy
 exact eq_of_beq (List.all_eq_true.1 (List.all_takeWhile (p := fun y : Ln => y.1 == x.1) (l := x :: r)) y hy)
theorem many_at {x : Ln} {r : List Ln} {j : Nat} {y : Ln} (h : ∀ i z, i < j → (x :: r)[i]? = some z → z.1 = x.1) (hy : (x :: r)[j]? = some y) (hne : y.1 ≠ x.1) : manyL (x :: r) = j := by
 have key : ∀ (l : List Ln) (j : Nat), (∀ i z, i < j → l[i]? = some z → z.1 = x.1) → l[j]? = some y → (l.takeWhile fun y => y.1 == x.1).length = j := by
  intro l
  induction l with
  | nil => intro j _ hy; cases hy
  | cons z l ih =>
   intro j h hy
   cases j with
   | zero =>
    obtain rfl : z = y := Option.some.inj hy
    rw [List.takeWhile_cons, beq_false_of_ne hne]; rfl
   | succ j =>
    rw [List.takeWhile_cons, h 0 z (Nat.succ_pos _) rfl, beq_self_eq_true]
    show (l.takeWhile _).length + 1 = j + 1
    rw [ih j (fun i z hi hz => h (i + 1) z (by omega) hz) hy]
 exact key _ j h hy
theorem many_all {x : Ln} {r : List Ln} (h : ∀ z ∈ x :: r, z.1 = x.1) : manyL (x :: r) = (x :: r).length := by
 have key : ∀ l : List Ln, (∀ z ∈ l, z.1 = x.1) → l.takeWhile (fun y => y.1 == x.1) = l := by
  intro l
  induction l with
  | nil => intro _; rfl
  | cons z l ih =>
   intro h
   rw [List.takeWhile_cons, h z (List.mem_cons_self ..), beq_self_eq_true]
   show z :: l.takeWhile _ = z :: l
   rw [ih fun y hy => h y (List.mem_cons_of_mem _ hy)]
 show ((x :: r).takeWhile _).length = _
 rw [key _ h]
structure Acc (d : List Ln) (i : Nat) (acc : List Ln) : Prop where
 good : Good acc
 has : ∀ k, hasQ acc k = sumK (d.take i) k
 far : ∀ y ∈ acc, ∀ x ∈ d.drop i, aheadK y.1 x.1 = true
 len : acc.length ≤ i
theorem Acc.start (d : List Ln) : Acc d 0 [] :=
 ⟨⟨fun _ h => (by cases h), List.Pairwise.nil⟩, fun _ => rfl, fun _ h => (by cases h), Nat.le_refl _⟩
def oneG (k q : Key) : List Ln := if sgnR q == 0 then [] else [(k, q)]
theorem Acc.step {d : List Ln} {i : Nat} {acc : List Ln} {x : Ln} (h : Acc d i acc) (hs : SortedK d) (hok : ∀ y ∈ d, lineOk y = true) (hx : d[i]? = some x) :
  Acc d (i + manyL (d.drop i)) (acc ++ oneG x.1 (sumL ((d.drop i).take (manyL (d.drop i))))) := by
 obtain ⟨hi, rfl⟩ := List.getElem?_eq_some_iff.1 hx
 have hB : d.drop i = d[i] :: d.drop (i + 1) := List.drop_eq_getElem_cons hi
 have hmem : ∀ y ∈ d.drop i, y ∈ d := fun y hy => List.mem_of_mem_drop hy
 have hsB : SortedK (d.drop i) := List.Pairwise.sublist (List.drop_sublist ..) hs
 have hG := many_same (x := d[i]) (r := d.drop (i + 1))
 have hpos : 0 < manyL (d.drop i) := by rw [hB]; exact many_pos
 rw [← hB] at hG
 have hfar := h.far
 have hxm : d[i] ∈ d.drop i := by rw [hB]; exact List.mem_cons_self ..
 generalize hx' : d[i] = x at *
 generalize hb : d.drop i = B at *
 have hsplit : B.take (manyL B) ++ B.drop (manyL B) = B := List.take_append_drop _ _
 -- all behind the group stand behind it
 have hC : ∀ y ∈ B.drop (manyL B), aheadK x.1 y.1 = true := fun y hy => by
  have hne : y.1 ≠ x.1 := fun e => by
   rw [hB, many_drop] at hy
   have hsx : SortedK (x :: d.drop (i + 1)) := by rw [← hB]; exact hsB
   cases hd : (x :: d.drop (i + 1)).dropWhile (fun y => y.1 == x.1) with
   | nil => rw [hd] at hy; cases hy
   | cons z t =>
    have hz : (z.1 == x.1) = false := by
     have := List.head?_dropWhile_not (p := fun y : Ln => y.1 == x.1) (l := x :: d.drop (i + 1))
     rw [hd] at this
     simpa using this
    have hsd : SortedK (z :: t) := by rw [← hd]; exact List.Pairwise.sublist (List.dropWhile_sublist _) hsx
    rw [hd] at hy
    have hzm : z ∈ x :: d.drop (i + 1) := (List.dropWhile_sublist (fun y : Ln => y.1 == x.1)).subset (by rw [hd]; exact List.mem_cons_self ..)
    have hxz : aheadK z.1 x.1 = false := by
     rcases List.mem_cons.1 hzm with rfl | hm
     ·exact ahead_irrefl _
     ·exact (List.pairwise_cons.1 hsx).1 z hm
    rcases List.mem_cons.1 hy with rfl | hm
    ·rw [e, beq_self_eq_true] at hz; cases hz
    ·have h1 := (List.pairwise_cons.1 hsd).1 y hm
     rw [e] at h1
     rcases ahead_cases z.1 x.1 with c | c | c
     ·rw [c] at hxz; cases hxz
     ·rw [c, beq_self_eq_true] at hz; cases hz
     ·rw [c] at h1; cases h1
  have hyB : y ∈ x :: d.drop (i + 1) := by rw [← hB]; exact List.mem_of_mem_drop hy
  rcases List.mem_cons.1 hyB with rfl | hm
  ·exact absurd rfl hne
  ·have hsx : SortedK (x :: d.drop (i + 1)) := by rw [← hB]; exact hsB
   have h1 := (List.pairwise_cons.1 hsx).1 y hm
   rcases ahead_cases x.1 y.1 with c | c | c
   ·exact c
   ·exact absurd c.symm hne
   ·rw [c] at h1; cases h1
 have hr : ∀ y ∈ B.take (manyL B), isR y.2 = true := fun y hy => ok_rat (hok y (hmem y (List.mem_of_mem_take hy)))
 rw [sumL_rd hr]
 have hok2 : lineOk (x.1, rd (sumV (B.take (manyL B)))) = true := by
  have k := hok x (hmem x hxm)
  unfold lineOk at k ⊢
  simp only [Bool.and_eq_true] at k ⊢
  exact ⟨k.1, k.2.1, isR_rd _⟩
 have hone : ∀ y ∈ oneG x.1 (rd (sumV (B.take (manyL B)))), y = (x.1, rd (sumV (B.take (manyL B)))) ∧ lineIn y = true := fun y hy => by
  unfold oneG at hy
  cases hz : sgnR (rd (sumV (B.take (manyL B)))) == 0 with
  | true => rw [hz] at hy; cases hy
  | false =>
   rw [hz] at hy
   obtain rfl := List.mem_singleton.1 hy
   refine ⟨rfl, ?_⟩
   unfold lineIn
   rw [hok2]
   show (true && !(sgnR (rd (sumV (B.take (manyL B)))) == 0)) = true
   rw [hz]; rfl
 have hacc : lineOf acc x.1 = none := of_none fun y hy => ahead_ne (hfar y hy x hxm)
 have e1 : d.take (i + manyL B) = d.take i ++ B.take (manyL B) := by rw [List.take_add, hb]
 have e2 : d.drop (i + manyL B) = B.drop (manyL B) := by rw [← List.drop_drop, hb]
 refine ⟨⟨fun y hy => ?_, pair_app.2 ⟨h.good.2, ?_, fun a ha b hb' => ?_⟩⟩, fun k => ?_, fun y hy z hz => ?_, ?_⟩
 ·rcases List.mem_append.1 hy with hy | hy
  ·exact h.good.1 y hy
  ·exact (hone y hy).2
 ·unfold oneG; split
  ·exact List.Pairwise.nil
  ·exact List.pairwise_singleton _ _
 ·obtain ⟨rfl, _⟩ := hone b hb'
  exact hfar a ha x hxm
 ·rw [e1, sumK_append, ← h.has k]
  unfold hasQ
  rw [of_append]
  by_cases e : k = x.1
  ·subst e
   rw [hacc, sumK_all hG, Option.none_or]
   show (match lineOf (oneG x.1 (rd (sumV (B.take (manyL B))))) x.1 with | some x => valR x.2 | none => 0) = 0 + sumV (B.take (manyL B))
   unfold oneG
   cases hz : sgnR (rd (sumV (B.take (manyL B)))) == 0 with
   | true =>
    rw [sgn_rd, beq_iff_eq, sgnQ_eq_zero] at hz
    rw [hz]
    show (0 : Rat) = 0 + 0
    grind
   | false =>
    have : lineOf [(x.1, rd (sumV (B.take (manyL B))))] x.1 = some (x.1, rd (sumV (B.take (manyL B)))) := by unfold lineOf; rw [List.find?_cons, beq_self_eq_true]
    show (match lineOf [(x.1, rd (sumV (B.take (manyL B))))] x.1 with | some x => valR x.2 | none => 0) = 0 + sumV (B.take (manyL B))
    rw [this]
    show valR (rd (sumV (B.take (manyL B)))) = _
    rw [valR_rd, Rat.zero_add]
  ·have n1 : lineOf (oneG x.1 (rd (sumV (B.take (manyL B))))) k = none := of_none fun y hy => by
    obtain ⟨rfl, _⟩ := hone y hy
    exact fun c => e c.symm
   rw [n1, Option.or_none, sumK_none fun y hy => by rw [hG y hy]; exact fun c => e c.symm, Rat.add_zero]
 ·rw [e2] at hz
  rcases List.mem_append.1 hy with hy | hy
  ·exact hfar y hy z (List.mem_of_mem_drop hz)
  ·obtain ⟨rfl, _⟩ := hone y hy
   exact hC z hz
 ·rw [List.length_append]
  have : (oneG x.1 (rd (sumV (B.take (manyL B))))).length ≤ 1 := by unfold oneG; split <;> simp
  have := h.len
  omega
theorem none_good : Good [] := ⟨fun _ h => (by cases h), List.Pairwise.nil⟩
theorem gath_end {d rows acc : List Ln} (hp : d.Perm rows) (hok : ∀ y ∈ rows, lineOk y = true) (h : Acc d d.length acc) : acc = addAll [] rows := by
 obtain ⟨g, k, _⟩ := addAll_good none_good hok
 refine good_ext h.good g fun key => ?_
 rw [h.has, k, List.take_length, sumK_perm hp]
 show _ = (0 : Rat) + _
 rw [Rat.zero_add]
theorem gath_has {ms : List Ln} (hm : ∀ x ∈ ms, lineOk x = true) (k : Key) : hasQ (addAll [] ms) k = sumK ms k := by
 rw [(addAll_good none_good hm).2.1 k]
 show (0 : Rat) + _ = _
 rw [Rat.zero_add]
theorem gath_good {ms : List Ln} (hm : ∀ x ∈ ms, lineOk x = true) : Good (addAll [] ms) := (addAll_good none_good hm).1
theorem good_ok {ls : List Ln} (h : Good ls) : ∀ x ∈ ls, lineOk x = true := fun x hx => lineIn_ok (h.1 x hx)
theorem gath_both {ls ms : List Ln} (h : Good ls) (hm : ∀ x ∈ ms, lineOk x = true) : ∀ x ∈ ls ++ addAll [] ms, lineOk x = true := fun x hx =>
 (List.mem_append.1 hx).elim (good_ok h x) (good_ok (gath_good hm) x)
theorem gath_two {ls ms : List Ln} (h : Good ls) (hm : ∀ x ∈ ms, lineOk x = true) : addAll [] (ls ++ addAll [] ms) = addAll ls ms := by
 refine good_ext (gath_good (gath_both h hm)) (addAll_good h hm).1 fun k => ?_
 rw [gath_has (gath_both h hm), sumK_append, ← has_sumK h, ← has_sumK (gath_good hm), gath_has hm, (addAll_good h hm).2.1 k]
def shortP (after ch : List Ln) : Bool := ch.any fun c => !(isFree c.1.1 || decide (0 < sgnR c.2)) && (thereB after c.1 && decide (sgnR (rawB after c.1) < 0))
theorem sgnNeg (q : Rat) : sgnQ q < 0 ↔ q < 0 := by
 have e : q.num < 0 ↔ q < 0 := by rw [← Rat.not_le, ← Rat.num_nonneg, Int.not_le]
 rw [← e]
 unfold sgnQ
 split
 ·rename_i k; exact ⟨fun _ => k, fun _ => by decide⟩
 ·rename_i k
  split
  ·exact ⟨fun h => absurd h (by decide), fun h => absurd h k⟩
  ·exact ⟨fun h => absurd h (by decide), fun h => absurd h k⟩
theorem sgnPos (q : Rat) : 0 < sgnQ q ↔ ¬ sgnQ q < 0 ∧ q ≠ 0 := by
 rw [show (q ≠ 0) = ¬ sgnQ q = 0 from propext (not_congr sgnQ_eq_zero.symm)]
 unfold sgnQ
 split
 ·exact ⟨fun h => absurd h (by decide), fun h => absurd (by decide) h.1⟩
 ·split
  ·exact ⟨fun h => absurd h (by decide), fun h => absurd rfl h.2⟩
  ·exact ⟨fun _ => ⟨by decide, by decide⟩, fun _ => by decide⟩
theorem there_has {b : List Ln} (h : Good b) {k : Key} (hq : hasQ b k ≠ 0) : thereB b k = true := by
 rcases place h.2 k with ⟨ht, _⟩ | ⟨_, e, _⟩
 ·exact ht
 ·unfold hasQ at hq; rw [e] at hq; exact absurd rfl hq
theorem raw_sgn {b : List Ln} (h : Good b) (k : Key) : sgnR (rawB b k) = sgnQ (hasQ b k) := by rw [rawB_rd h.1, sgn_rd]
theorem shortB_iff {ls ms : List Ln} (h : Good ls) (hm : ∀ x ∈ ms, lineOk x = true) (x : Ln) : shortB ls (addAll ls ms) x = true ↔ isFree x.1.1 = false ∧ sgnQ (hasQ (addAll ls ms) x.1) < 0 ∧ sumK ms x.1 < 0 := by
 have g := (addAll_good h hm).1
 unfold shortB
 rw [getB_rd g, getB_rd h, sgn_rd]
 have hc : cmpR (rd (hasQ (addAll ls ms) x.1)) (rd (hasQ ls x.1)) = sgnQ (sumK ms x.1) := by
  have e : cmpR (rd (hasQ (addAll ls ms) x.1)) (rd (hasQ ls x.1)) = sgnQ (hasQ (addAll ls ms) x.1 - hasQ ls x.1) := by unfold cmpR; rw [isR_rd, isR_rd, valR_rd, valR_rd]; rfl
  rw [e, (addAll_good h hm).2.1]
  congr 1; grind
 rw [hc]
 simp only [Bool.and_eq_true, Bool.not_eq_true', decide_eq_true_eq, sgnNeg]
theorem short_same2 {ls ms : List Ln} (h : Good ls) (hm : ∀ x ∈ ms, lineOk x = true) : shortP (addAll ls ms) (addAll [] ms) = ms.any (shortB ls (addAll ls ms)) := by
 have g := (addAll_good h hm).1
 have g0 := gath_good hm
 rw [Bool.eq_iff_iff]
 unfold shortP
 rw [List.any_eq_true, List.any_eq_true]
 constructor
 ·rintro ⟨c, hc, k⟩
  simp only [Bool.and_eq_true, Bool.not_eq_true', Bool.or_eq_false_iff, decide_eq_true_eq, decide_eq_false_iff_not] at k
  obtain ⟨⟨k1, k2⟩, _, k3⟩ := k
  have hq := line_has g0 hc
  rw [gath_has hm] at hq
  have hne := (lineIn_rat (g0.1 c hc)).2
  rw [hq, valR_rd] at hne
  rw [hq, sgn_rd, sgnPos] at k2
  have k4 : sumK ms c.1 < 0 := by
   rw [← sgnNeg]
   exact Decidable.byContradiction fun e => k2 ⟨e, hne⟩
  obtain ⟨x, hx, e⟩ := sumK_mem hne
  refine ⟨x, hx, (shortB_iff h hm x).2 ?_⟩
  rw [e]
  rw [raw_sgn g] at k3
  exact ⟨k1, k3, k4⟩
 ·rintro ⟨x, hx, k⟩
  obtain ⟨k1, k2, k3⟩ := (shortB_iff h hm x).1 k
  have hne : sumK ms x.1 ≠ 0 := fun e => by rw [e] at k3; exact absurd k3 (by decide +kernel)
  have h0 : hasQ (addAll [] ms) x.1 ≠ 0 := by rw [gath_has hm]; exact hne
  obtain ⟨c, hc, e⟩ : ∃ c ∈ addAll [] ms, c.1 = x.1 := by
   unfold hasQ at h0
   cases el : lineOf (addAll [] ms) x.1 with
   | none => rw [el] at h0; exact absurd rfl h0
   | some c => exact ⟨c, (of_some el).1, (of_some el).2⟩
  refine ⟨c, hc, ?_⟩
  have hq := line_has g0 hc
  rw [gath_has hm] at hq
  simp only [Bool.and_eq_true, Bool.not_eq_true', Bool.or_eq_false_iff, decide_eq_true_eq, decide_eq_false_iff_not]
  rw [hq, sgn_rd, e, raw_sgn g]
  refine ⟨⟨k1, fun c => ?_⟩, there_has g fun c => ?_, k2⟩
  ·exact ((sgnPos _).1 c).1 ((sgnNeg _).2 k3)
  ·rw [c] at k2; exact absurd k2 (by decide +kernel)
theorem sum_fitN {D M N : Nat} {rows L : List Ln} (h : Tame D M rows) (hr : ∀ x ∈ rows, isR x.2 = true) (hs : ∀ x ∈ L, x ∈ rows) (hl : L.length ≤ N) (z : Sized D (M * N)) : Fit (sumL L) := by
 rw [sum_total fun x hx => hr x (hs x hx)]
 exact fit_of z ((foldr_bd z.pos (h.sub hs)).mono (Nat.mul_le_mul_left _ hl))
theorem key_one {b : List Ln} (h : Good b) (k : Key) : (b.filter fun x => x.1 == k).length ≤ 1 := by
 obtain ⟨A, M, C, rfl, hA, hC, hM⟩ := parts h.2 k
 have nA : (A.filter fun x => x.1 == k) = [] := List.filter_eq_nil_iff.2 fun x hx => by rw [beq_iff_eq]; exact ahead_ne (hA x hx)
 have nC : (C.filter fun x => x.1 == k) = [] := List.filter_eq_nil_iff.2 fun x hx => by rw [beq_iff_eq]; exact (ahead_ne (hC x hx)).symm
 rw [List.filter_append, List.filter_append, nA, nC, List.nil_append, List.append_nil]
 rcases hM with rfl | ⟨p, rfl⟩
 ·exact Nat.zero_le _
 ·exact List.length_filter_le _ _
end Go.Proofs.YtagfndkfjbbpjaaGreatDoor
/- The program's post: the order of lines, exactly; Free; sums by halves. -/
namespace Go.Proofs.YtagfndkfjbbpjaaGreatDoor
open Go.RowKit
set_option linter.unusedSimpArgs false
set_option linter.unusedVariables false
def Grw (U w : World) : Prop := ∃ (q : Nat) (os : Array Obj), w = { U with heap := U.heap ++ os, drawn := U.drawn + q }
theorem Grw.refl (U : World) : Grw U U := ⟨0, #[], by simp⟩
theorem Grw.drew {U w : World} (h : Grw U w) : Grw U w.drew := by
 obtain ⟨q, os, rfl⟩ := h; exact ⟨q + 1, os, rfl⟩
theorem Grw.alloc {U w : World} (h : Grw U w) (o : Obj) : Grw U (w.alloc o) := by
 obtain ⟨q, os, rfl⟩ := h
 exact ⟨q, os.push o, by simp [World.alloc]⟩
theorem Grw.trans {U v w : World} (h : Grw U v) (k : Grw v w) : Grw U w := by
 obtain ⟨q, os, rfl⟩ := h
 obtain ⟨r, ot, rfl⟩ := k
 exact ⟨q + r, os ++ ot, by simp [Array.append_assoc, Nat.add_assoc]⟩
theorem Grw.below {U w : World} (h : Grw U w) : Below U.heap.size U w := by
 obtain ⟨q, os, rfl⟩ := h
 exact ⟨rfl, rfl, rfl, by simp, fun k hk => by simp [Array.getElem?_append, hk]⟩
def GiveG (w : World) (i : Int) (e : Ending) (w' : World) : Prop := e = .returned (.int .i64 i) ∧ Grw w w'
theorem heldW {P : Program} {f : FuncId} {args : Array Value} {W w : World} {v : Value} (c : Calls P f args w fun e w' => e = .returned v ∧ Grw w w') (h : Grw W w) :
  Calls P f args w fun e w' => e = .returned v ∧ Grw W w' := c.mono fun _ _ ⟨he, hb⟩ => ⟨he, h.trans hb⟩
theorem scmpG (a b : List UInt8) (w : World) : Calls Tryz.prog 85 #[.string ⟨a.toArray⟩, .string ⟨b.toArray⟩] w (GiveG w (Lib.compareBytes a b)) :=
 (Tryz.strings_Compare ⟨a.toArray⟩ ⟨b.toArray⟩ w).mono fun e w' ⟨h1, h2⟩ => ⟨h1, h2 ▸ Grw.refl _⟩
set_option maxRecDepth 100000 in
set_option maxHeartbeats 2000000 in
theorem orG_any (b : Nat) (x y : Int) (w : World) (h0 : w.cell? ⟨b, 0, none⟩ = some (.int .i64 x)) (h1 : w.cell? ⟨b, 1, none⟩ = some (.int .i64 y)) :
  Calls Tryz.prog 84 #[.slice (some ⟨b, 0, none⟩) 2 2] w (GiveG w (orZ x y)) := by
 go_enter Tryz.func84, Tryz.ntmps84
 go_wp2
 go_loop [8] (fun i => ∃ k : Nat, i = .int .i64 k ∧ (k = 0 ∨ (k = 1 ∧ x = 0) ∨ (k = 2 ∧ (x = 0 ∧ y = 0)))) (fun i => 2 - (intOf i).toNat)
 case atStart => exact ⟨0, rfl, .inl rfl⟩
 case round =>
  obtain ⟨k, rfl, hk⟩ := hrel
  rcases hk with rfl | ⟨rfl, hx⟩ | ⟨rfl, hx, hy⟩
  ·by_cases hx : x = 0
   ·go_wp2
    go_round
    case rel => exact ⟨1, by go_num, .inr (.inl ⟨rfl, hx⟩)⟩
    case measure => simp [intOf]
   ·have HO : Hid (orZ x y = x) := Lib.hid (orZ_left hx)
    go_wp2
    go_ret
    exact ⟨ret_int (by first | rw [HO.out] | exact (orZ_right _).symm | rfl), Grw.refl _⟩
  ·have HO : Hid (orZ x y = y) := Lib.hid (by rw [hx]; exact orZ_right y)
   by_cases hy : y = 0
   ·go_wp2
    go_round
    case rel => exact ⟨2, by go_num, .inr (.inr ⟨rfl, hx, hy⟩)⟩
    case measure => simp [intOf]
   ·go_wp2
    go_ret
    exact ⟨ret_int (by first | rw [HO.out] | exact (orZ_right _).symm | rfl), Grw.refl _⟩
  ·have HO : Hid (orZ x y = 0) := Lib.hid (by rw [hx, hy]; rfl)
   go_wp2
   go_ret
   exact ⟨ret_int (by first | rw [HO.out] | exact (orZ_right _).symm | rfl), Grw.refl _⟩
theorem orG_new (w : World) (x y : Int) (t : TypeId) : Calls Tryz.prog 84 #[.slice (some ⟨w.heap.size, 0, none⟩) 2 2] (w.alloc (.cells #[.int .i64 x, .int .i64 y] t)) (GiveG (w.alloc (.cells #[.int .i64 x, .int .i64 y] t)) (orZ x y)) :=
 orG_any _ x y _ (cell_new _ _ _ _ rfl 0) (cell_new _ _ _ _ rfl 1)
set_option maxRecDepth 100000 in
set_option maxHeartbeats 4000000 in
theorem porderG_any (a s n d c t m e : List UInt8) (w : World) :
  Calls Tryz.prog 105 #[.agg #[.string ⟨a.toArray⟩, .string ⟨s.toArray⟩, .string ⟨n.toArray⟩, .string ⟨d.toArray⟩], .agg #[.string ⟨c.toArray⟩, .string ⟨t.toArray⟩, .string ⟨m.toArray⟩, .string ⟨e.toArray⟩]] w (GiveG w (ordK (a, s) (c, t))) := by
 have c1 := fun w => scmpG a c w
 have c2 := fun w => scmpG s t w
 have HO : Hid (ordK (a, s) (c, t) = orZ (Lib.compareBytes a c) (Lib.compareBytes s t)) := Lib.hid rfl
 generalize ordK (a, s) (c, t) = o at *
 generalize Lib.compareBytes a c = x at *
 generalize Lib.compareBytes s t = y at *
 have C1 := Lib.hid c1; have C2 := Lib.hid c2; clear c1 c2
 go_enter Tryz.func105, Tryz.ntmps105
 go_wp2_with fail
 obtain ⟨U1, hU, bU, s1, rx0, rx1, rx2, rx3⟩ := lay4 (Below.refl w.heap.size w) (.string ⟨a.toArray⟩) (.string ⟨s.toArray⟩) (.string ⟨n.toArray⟩) (.string ⟨d.toArray⟩) 46
 have g1 : Grw w U1 := hU ▸ (Grw.refl w).alloc _
 rw [hU]; clear hU
 obtain ⟨U2, hU, bV, s2, ry0, ry1, ry2, ry3⟩ := lay4 (Below.refl U1.heap.size U1) (.string ⟨c.toArray⟩) (.string ⟨t.toArray⟩) (.string ⟨m.toArray⟩) (.string ⟨e.toArray⟩) 46
 have g2 : Hid (Grw w U2) := Lib.hid (hU ▸ g1.alloc _)
 rw [hU]; clear hU g1
 have qx0 := fun v (h : Grw U2 v) => rx0 v (Below.more bV h.below)
 have qx1 := fun v (h : Grw U2 v) => rx1 v (Below.more bV h.below)
 have qy0 := fun v (h : Grw U2 v) => ry0 v h.below
 have qy1 := fun v (h : Grw U2 v) => ry1 v h.below
 rw [← s1] at qy0 qy1
 have g0 := Grw.refl U2
 clear bU bV rx0 rx1 ry0 ry1 rx2 rx3 ry2 ry3 s1 s2
 first | (go_region_held3 (fun w' => Grw U2 w')
    (first | (exact g0.drew) | (with_reducible assumption) | (exact Grw.alloc (by with_reducible assumption) _))
    (first | (go_at_call 85; (with_reducible show Calls _ _ #[.string ⟨a.toArray⟩, .string ⟨c.toArray⟩] _ _); (with_reducible refine (heldW (C1.out _) (by assumption)).mono ?_); rintro e w'' ⟨rfl, hw⟩) | (go_at_call 85; (with_reducible show Calls _ _ #[.string ⟨s.toArray⟩, .string ⟨t.toArray⟩] _ _); (with_reducible refine (heldW (C2.out _) (by assumption)).mono ?_); rintro e w'' ⟨rfl, hw⟩) | (go_at_call 84; (with_reducible refine (heldW (orG_new _ _ _ _) (by assumption)).mono ?_); rintro e w'' ⟨rfl, hw⟩))) | fail
 all_goals (go_wp2_with fail)
 all_goals go_ret
 all_goals (exact ⟨ret_int (by rw [HO.out]), g2.out.trans (by with_reducible assumption)⟩)
theorem porder_any (a s n d c t m e : List UInt8) (w : World) :
  Calls Tryz.prog 105 #[.agg #[.string ⟨a.toArray⟩, .string ⟨s.toArray⟩, .string ⟨n.toArray⟩, .string ⟨d.toArray⟩], .agg #[.string ⟨c.toArray⟩, .string ⟨t.toArray⟩, .string ⟨m.toArray⟩, .string ⟨e.toArray⟩]] w (GiveI w (ordK (a, s) (c, t))) :=
 (porderG_any a s n d c t m e w).mono fun _ _ ⟨h, k⟩ => ⟨h, k.below⟩
theorem free_is (l : List UInt8) : Lib.hasPrefix l [33] = isFree l := by
 cases l with
 | nil => rfl
 | cons c r =>
  show ((33 : UInt8) == c && ([] : List UInt8).isPrefixOf r) = isFree (c :: r)
  have e : ([] : List UInt8).isPrefixOf r = true := by cases r <;> rfl
  rw [e, Bool.and_true]
  unfold isFree
  split
  ·rename_i r' heq; rw [(List.cons.inj heq).1]; rfl
  ·rename_i hne; exact beq_false_of_ne fun e => hne r (by rw [e])
set_option maxRecDepth 100000 in
set_option maxHeartbeats 2000000 in
theorem pfree_any (s : ByteArray) (w : World) : Calls Tryz.prog 109 #[.string s] w (GiveB w (isFree s.data.toList)) := by
 have c := fun w => Tryz.strings_HasPrefix s ⟨#[33]⟩ w
 rw [show (⟨#[33]⟩ : ByteArray).data.toList = [33] from rfl, free_is] at c
 generalize isFree s.data.toList = x at *
 have C := Lib.hid c; clear c
 go_enter Tryz.func109, Tryz.ntmps109
 go_wp2_with fail
 refine (C.out _).mono ?_
 rintro e w' ⟨rfl, rfl⟩
 go_wp2_with fail
 go_ret
 exact ⟨rfl, Below.refl _ _⟩
theorem Lns.takes {w : World} {p : Option Addr} {ls : List Ln} (h : Lns w p ls) (i : Nat) : Lns w p (ls.take i) := fun j x hx => by
 have hj := (List.getElem?_eq_some_iff.1 hx).1
 rw [List.length_take] at hj
 rw [List.getElem?_take_of_lt (by omega)] at hx
 exact h j x hx
theorem Lns.drops {w : World} {b o : Nat} {ls : List Ln} (h : Lns w (some ⟨b, o, Option.none⟩) ls) (i : Nat) : Lns w (some ⟨b, o + i * 4, Option.none⟩) (ls.drop i) := fun j x hx => by
 rw [List.getElem?_drop] at hx
 obtain ⟨b', o', hp, hl, c0, c1, c2, c3⟩ := h (i + j) x hx
 cases hp
 rw [Nat.add_mul, ← Nat.add_assoc] at c0 c1 c2 c3
 exact ⟨b, o + i * 4, rfl, hl, c0, c1, c2, c3⟩
set_option maxRecDepth 100000 in
set_option maxHeartbeats 4000000 in
theorem ps_1 (p : Option Addr) (c : Nat) (a s n d : List UInt8) (w : World) (h : Lns w p [((a, s), (n, d))]) :
  Calls Tryz.prog 107 #[.slice p 1 c] w (GiveR w (n, d)) := by
 obtain ⟨b, o, rfl, k0, k1, k2, k3⟩ := h.rule (k := 0) rfl
 simp only [Nat.zero_mul, Nat.add_zero] at k0 k1 k2 k3
 clear h k0 k1
 have ka := fun x => k2 (w.alloc x) (Below.step x (Below.refl _ _))
 have kb := fun x => k3 (w.alloc x) (Below.step x (Below.refl _ _))
 clear k2 k3
 go_enter Tryz.func107, Tryz.ntmps107
 go_wp2_with fail
 refine bodyPost_ret (v := .agg #[.string ⟨n.toArray⟩, .string ⟨d.toArray⟩]) (by simp [results, Tryz.results107, go_sem, *]) rfl ⟨rfl, ?_⟩
 first | exact put2 (Below.step _ (Below.refl _ _)) (Nat.le_refl _) _ _ | exact Below.step _ (Below.refl _ _)
theorem heldV {P : Program} {f : FuncId} {args : Array Value} {w W : World} {v : Value} {B : Nat} (hB : B ≤ W.heap.size) (c : ∀ V, Below B W V → Calls P f args V fun e w' => e = .returned v ∧ Below V.heap.size V w') (h : Below B W w) :
  Calls P f args w fun e w' => e = .returned v ∧ Below w.heap.size w w' ∧ Below B W w' := held hB (c w h) h
set_option maxRecDepth 100000 in
set_option maxHeartbeats 4000000 in
theorem ps_2 (b o N m c : Nat) (x1 x2 y1 y2 : List UInt8) (r : Key) (w : World) (hN : 2 ≤ N) (hm : m = N / 2) (hc : N ≤ c) (hl : N ≤ 1000000)
  (C1 : Hid (∀ V, Below w.heap.size w V → Calls Tryz.prog 107 #[.slice (some ⟨b, o, none⟩) m c] V (GiveR V (x1, x2))))
  (C2 : Hid (∀ V, Below w.heap.size w V → Calls Tryz.prog 107 #[.slice (some ⟨b, o + m * 4, none⟩) (N - m) (c - m)] V (GiveR V (y1, y2))))
  (CA : Hid (∀ V, Calls Tryz.prog 130 #[.agg #[.string ⟨x1.toArray⟩, .string ⟨x2.toArray⟩], .agg #[.string ⟨y1.toArray⟩, .string ⟨y2.toArray⟩]] V (GiveR V r))) :
  Calls Tryz.prog 107 #[.slice (some ⟨b, o, none⟩) N c] w (GiveR w r) := by
 have h1 : ¬ (N : Int) = 1 := by omega
 have hmi : (N : Int).tdiv 2 = (m : Int) := by rw [Int.tdiv_eq_ediv_of_nonneg (by omega)]; omega
 have hme : (N : Int) / 2 = (m : Int) := by omega
 have hmc : ¬ c = m := by omega
 have hc0 : ¬ c = 0 := by omega
 have hmN : m ≤ N := by omega
 have hmC : m ≤ c := by omega
 clear hm
 go_enter Tryz.func107, Tryz.ntmps107
 go_upto_region 4 with fail
 obtain ⟨W, hW⟩ : ∃ W, w.alloc (.cells #[.string ⟨#[]⟩, .string ⟨#[]⟩] 35) = W := ⟨_, rfl⟩
 rw [hW]
 have hz : Zc w.heap.size (.string ⟨#[]⟩) (.string ⟨#[]⟩) W := hW ▸ zc_new _ _ _ _
 have BW : Below w.heap.size w W := hW ▸ Below.step _ (Below.refl _ _)
 clear hW
 have b0 := Below.refl W.heap.size W
 have z0 := hz.c0; have z1 := hz.c1; have z2 := hz.f0; have z3 := hz.f1
 have hB : Hid (w.heap.size ≤ W.heap.size) := Lib.hid (Nat.le_of_lt hz.lt)
 replace b0 : Below w.heap.size W W := Below.refl _ _
 have hzd := hz.drew
 have D1 := Lib.hid fun V h => C1.out V (BW.trans h)
 have D2 := Lib.hid fun V h => C2.out V (BW.trans h)
 go_region_held3 (fun w' => Below w.heap.size W w')
    (first | (exact b0.drew) | (with_reducible assumption) | (exact put2 (by with_reducible assumption) (Nat.le_refl _) _ _))
    (first | (go_at_call 107; (with_reducible show Calls _ _ #[.slice (some ⟨b, o, none⟩) m c] _ _); (with_reducible refine (heldV (W := W) hB.out D1.out (by assumption)).mono ?_); rintro e w'' ⟨rfl, hb, hw⟩; (have hz := Zc.below (by assumption) hb); (have z0 := hz.c0; have z1 := hz.c1; have z2 := hz.f0; have z3 := hz.f1)) | (go_at_call 107; (with_reducible show Calls _ _ #[.slice (some ⟨b, o + m * 4, none⟩) (N - m) (c - m)] _ _); (with_reducible refine (heldV (W := W) hB.out D2.out (by assumption)).mono ?_); rintro e w'' ⟨rfl, hb, hw⟩; (have hz := Zc.below (by assumption) hb); (have z0 := hz.c0; have z1 := hz.c1; have z2 := hz.f0; have z3 := hz.f1)) | (go_at_call 130; (with_reducible show Calls _ _ #[.agg #[.string ⟨x1.toArray⟩, .string ⟨x2.toArray⟩], .agg #[.string ⟨y1.toArray⟩, .string ⟨y2.toArray⟩]] _ _); (with_reducible refine (held (W := W) hB.out (CA.out _) (by assumption)).mono ?_); rintro e w'' ⟨rfl, hb, hw⟩; (have hz := Zc.below (by assumption) hb); (have z0 := hz.c0; have z1 := hz.c1; have z2 := hz.f0; have z3 := hz.f1)))
 all_goals (go_wp2_with fail)
 all_goals (refine bodyPost_ret (v := .agg #[.string ⟨r.1.toArray⟩, .string ⟨r.2.toArray⟩]) (by simp [results, Tryz.results107, go_sem, *]) rfl ⟨rfl, ?_⟩)
 all_goals (exact put2 (BW.trans (by with_reducible assumption)) (Nat.le_refl _) _ _)
theorem psum_any (N : Nat) : ∀ (p : Option Addr) (c : Nat) (ls : List Ln) (w : World), 0 < ls.length → ls.length ≤ N → ls.length ≤ c → ls.length ≤ 1000000 → (∀ x ∈ ls, isR x.2 = true) → (∀ L : List Ln, (∀ x ∈ L, x ∈ ls) → L.length ≤ ls.length → Fit (sumL L)) → Lns w p ls →
  Calls Tryz.prog 107 #[.slice p ls.length c] w (GiveR w (sumL ls)) := by
 induction N with
 | zero => intro p c ls w h0 hN; omega
 | succ N ih =>
  intro p c ls w h0 hN hc hl hr hf h
  match ls, h0, hN, hc, hl, hr, hf, h with
  | [((a, s), (n, d))], h0, hN, hc, hl, hr, hf, h =>
   rw [sum_one (hr _ (List.mem_singleton.2 rfl))]
   exact ps_1 p c a s n d w h
  | x :: y :: r, h0, hN, hc, hl, hr, hf, h =>
   obtain ⟨b, o, rfl, _⟩ := h 0 x rfl
   have hlen : 2 ≤ (x :: y :: r).length := by simp
   generalize x :: y :: r = L at *
   have h1 : (L.take (L.length / 2)).length = L.length / 2 := by rw [List.length_take]; omega
   have h2 : (L.drop (L.length / 2)).length = L.length - L.length / 2 := List.length_drop
   have r1 : ∀ x ∈ L.take (L.length / 2), isR x.2 = true := fun x hx => hr x (List.mem_of_mem_take hx)
   have r2 : ∀ x ∈ L.drop (L.length / 2), isR x.2 = true := fun x hx => hr x (List.mem_of_mem_drop hx)
   have f1 : ∀ M : List Ln, (∀ x ∈ M, x ∈ L.take (L.length / 2)) → M.length ≤ (L.take (L.length / 2)).length → Fit (sumL M) := fun M hs hl => hf M (fun x hx => List.mem_of_mem_take (hs x hx)) (by omega)
   have f2 : ∀ M : List Ln, (∀ x ∈ M, x ∈ L.drop (L.length / 2)) → M.length ≤ (L.drop (L.length / 2)).length → Fit (sumL M) := fun M hs hl => hf M (fun x hx => List.mem_of_mem_drop (hs x hx)) (by omega)
   have c1 := fun V (hv : Below w.heap.size w V) => ih (some ⟨b, o, none⟩) c (L.take (L.length / 2)) V (by omega) (by omega) (by omega) (by omega) r1 f1 ((h.below hv).takes _)
   have c2 := fun V (hv : Below w.heap.size w V) => ih (some ⟨b, o + L.length / 2 * 4, none⟩) (c - L.length / 2) (L.drop (L.length / 2)) V (by omega) (by omega) (by omega) (by omega) r2 f2 ((h.below hv).drops _)
   rw [h1] at c1
   rw [h2] at c2
   have l1 := f1 _ (fun x hx => hx) (Nat.le_refl _)
   have l2 := f2 _ (fun x hx => hx) (Nat.le_refl _)
   have ca := fun V => qadd_any ⟨(sumL (L.take (L.length / 2))).1.toArray⟩ ⟨(sumL (L.take (L.length / 2))).2.toArray⟩ ⟨(sumL (L.drop (L.length / 2))).1.toArray⟩ ⟨(sumL (L.drop (L.length / 2))).2.toArray⟩ V (by rw [size_of]; exact Nat.le_trans l1.1 (by decide)) (by rw [size_of]; exact Nat.le_trans l1.2 (by decide)) (by rw [size_of]; exact Nat.le_trans l2.1 (by decide)) (by rw [size_of]; exact Nat.le_trans l2.2 (by decide))
   have e := sum_halves r1 r2
   rw [List.take_append_drop] at e
   rw [← e]
   exact ps_2 b o L.length (L.length / 2) c _ _ _ _ _ w hlen rfl hc hl (Lib.hid c1) (Lib.hid c2) (Lib.hid ca)
end Go.Proofs.YtagfndkfjbbpjaaGreatDoor
/- The program's post: a place found by halves; rows one behind the other; a row laid anew; how many rows are alike. -/
namespace Go.Proofs.YtagfndkfjbbpjaaGreatDoor
open Go.RowKit
set_option linter.unusedSimpArgs false
set_option linter.unusedVariables false
def GiveRo (w : World) (ls : List Ln) (e : Ending) (w' : World) : Prop := (∃ p c, e = .returned (.slice p ls.length c) ∧ ls.length ≤ c ∧ Lns w' p ls) ∧ Below w.heap.size w w'
theorem giveRo {w w' : World} {ls : List Ln} {e : Ending} (h : GiveL w ls e w') : GiveRo w ls e w' := by
 obtain ⟨⟨p, c, he, hc, hl, _⟩, hb⟩ := h
 exact ⟨⟨p, c, he, hc, hl⟩, hb⟩
def GivePB (w : World) (i : Int) (b : Bool) (e : Ending) (w' : World) : Prop := e = .returned (.tuple #[.int .i64 i, .bool b]) ∧ Below w.heap.size w w'
theorem ret_ib {i j : Int} {a b : Bool} (h : i = j) (k : a = b) : Ending.returned (.tuple #[.int .i64 i, .bool a]) = .returned (.tuple #[.int .i64 j, .bool b]) := by rw [h, k]
theorem there_of {ls : List Ln} {k : Key} {x : Ln} {z : Int} (hx : ls[rank ls k]? = some x) (hz : ordK x.1 k = z) : thereB ls k = decide (z = 0) := by
 unfold thereB; rw [hx]
 show (x.1 == k) = _
 subst hz
 by_cases h : x.1 = k
 ·rw [h, ord_self]; simp
 ·rw [beq_false_of_ne h, decide_eq_false (fun e => h (ord_zero.1 e))]
theorem there_no {ls : List Ln} {k : Key} (h : ls.length ≤ rank ls k) : thereB ls k = false := by
 unfold thereB; rw [List.getElem?_eq_none h]
set_option maxRecDepth 100000 in
set_option maxHeartbeats 4000000 in
theorem psearch_any (p : Option Addr) (c : Nat) (ls : List Ln) (a s n d : List UInt8) (w : World) (hc : ls.length ≤ c) (hl : ls.length ≤ 1000000) (hp : ls.Pairwise fun x y => aheadK x.1 y.1 = true) (h : Lns w p ls) :
  Calls Tryz.prog 110 #[.slice p ls.length c, .agg #[.string ⟨a.toArray⟩, .string ⟨s.toArray⟩, .string ⟨n.toArray⟩, .string ⟨d.toArray⟩], .func (.func 105) #[] #[]] w (GivePB w (rank ls (a, s)) (thereB ls (a, s))) := by
 have HP := Lib.hid hp; clear hp
 go_enter Tryz.func110, Tryz.ntmps110
 go_wp2_with fail
 obtain ⟨U, hU, bU, s1, t0, t1, t2, t3⟩ := lay4 (Below.refl w.heap.size w) (.string ⟨a.toArray⟩) (.string ⟨s.toArray⟩) (.string ⟨n.toArray⟩) (.string ⟨d.toArray⟩) 46
 rw [hU]; clear hU s1
 have HS := Lib.hid (h.below bU)
 have BW := Lib.hid bU
 clear h bU
 go_wp2_with fail
 go_loopw [9, 10] (fun x y wr => ∃ lo hi : Nat, x = .int .i64 lo ∧ y = .int .i64 hi ∧ lo ≤ hi ∧ hi ≤ ls.length ∧ Hid (∀ t x, t < lo → ls[t]? = some x → aheadK x.1 (a, s) = true) ∧ Hid (∀ t x, hi ≤ t → ls[t]? = some x → aheadK x.1 (a, s) = false) ∧ Below U.heap.size U wr) (fun x y _ => (intOf y).toNat - (intOf x).toNat)
 case atStart => exact ⟨0, ls.length, rfl, rfl, Nat.zero_le _, Nat.le_refl _, fun t _ h => absurd h (Nat.not_lt_zero t), fun t x h e => absurd (List.getElem?_eq_some_iff.1 e).1 (by omega), Below.refl _ _⟩
 case round =>
  obtain ⟨lo, hi, rfl, rfl, hlh, hil, HL, HI, hw⟩ := hrel
  by_cases hlt : lo < hi
  ·obtain ⟨m, hm⟩ : ∃ m, m = (lo + hi) / 2 := ⟨_, rfl⟩
   have hmi : ((lo : Int) + (hi : Int)) / 2 = (m : Int) := by omega
   have hmn : (lo + hi) / 2 = m := hm.symm
   have hml : m < ls.length := by omega
   have hm1 : lo ≤ m := by omega
   have hm2 : m < hi := by omega
   clear hm
   obtain ⟨⟨⟨a', s'⟩, ⟨n', d'⟩⟩, hx⟩ : ∃ x, ls[m]? = some x := ⟨_, List.getElem?_eq_getElem (by omega)⟩
   obtain ⟨b, o, rfl, k0, k1, k2, k3⟩ := (HS.out.below hw).rule hx
   have co := fun w => porder_any a' s' n' d' a s n d w
   by_cases hq : ordK (a', s') (a, s) < 0
   ·have HT : Hid (∀ t x, t < m + 1 → ls[t]? = some x → aheadK x.1 (a, s) = true) := Lib.hid fun t y ht hy => ahead_mono HP.out (show t ≤ m by omega) hy hx (ord_neg.1 hq)
    generalize ordK (a', s') (a, s) = q at *
    have CO := Lib.hid co
    clear co hx
    have x0 := fun v (h : Below wr.heap.size wr v) => t0 v (Below.more hw h)
    have x1 := fun v (h : Below wr.heap.size wr v) => t1 v (Below.more hw h)
    have x2 := fun v (h : Below wr.heap.size wr v) => t2 v (Below.more hw h)
    have x3 := fun v (h : Below wr.heap.size wr v) => t3 v (Below.more hw h)
    have HW := Lib.hid hw
    have b0 := Below.refl wr.heap.size wr
    have hB := Lib.hid (Nat.le_refl wr.heap.size)
    clear hw t0 t1 t2 t3
    go_wp2_with fail
    refine wp_region_noPanic ?_
    refine wp_region_held_drew (S := fun w' => Below wr.heap.size wr w') (by kernel_rfl) (b0.drew) (fun hH0 => ?_)
    refine sch_in [0, 1, 2, 3, 4, 5] ?_
    iterate 6 (refine sch_yes (v := ?_) rfl (by kernel_rfl) (by rfl) ?_ (by assumption) ?_; rotate_left 1; (· (intro w hSw; (try dsimp only at hSw); go_simp <;> (with_reducible rfl))); try simp only [Act.put, qA, qB, qC, qD, qE, qF])
    refine sch_out ?_
    refine wpAnyH_ready (rs := [6]) (by kernel_rfl) (by simp) ?_
    refine AllReadyH.cons rfl (fun K hK => ?_) AllReadyH.nil
    go_simp
    refine (held (W := wr) hB.out (CO.out _) (by assumption)).mono ?_
    rintro e w'' ⟨rfl, hb, hw⟩
    (try go_wp2_with fail)
    refine hK.out _ _ hw (fun hH1 => ?_)
    clear hK hH0 hb
    try simp only [Act.put, qA, qB, qC, qD, qE, qF]
    refine wpAnyH_take (i := 7) (v := ?_) rfl (by kernel_rfl) (by kernel_rfl) (by kernel_rfl) (fun _ _ _ h => h) (Or.inl ⟨by rfl, ?_⟩) (by assumption) ?_
    rotate_left 1
    ·(intro w hSw; (try dsimp only at hSw); go_simp <;> (with_reducible rfl))
    try simp only [Act.put, qA, qB, qC, qD, qE, qF]
    refine wpAnyH_done (by kernel_rfl) ?_ _
    refine NoPanic.normal ?_
    have b3 := hw
    clear hw
    go_wp2_with fail
    go_roundw
    case rel => exact ⟨m + 1, hi, by go_num, rfl, by omega, hil, HT.out, HI.out, Below.more HW.out b3⟩
    case measure => simp [intOf]; omega
   ·have HT : Hid (∀ t x, m ≤ t → ls[t]? = some x → aheadK x.1 (a, s) = false) := Lib.hid fun t y ht hy => by
     cases e : aheadK y.1 (a, s) with
     | false => rfl
     | true => exact absurd (ord_neg.2 (ahead_mono HP.out ht hx hy e)) hq
    generalize ordK (a', s') (a, s) = q at *
    have CO := Lib.hid co
    clear co hx
    have x0 := fun v (h : Below wr.heap.size wr v) => t0 v (Below.more hw h)
    have x1 := fun v (h : Below wr.heap.size wr v) => t1 v (Below.more hw h)
    have x2 := fun v (h : Below wr.heap.size wr v) => t2 v (Below.more hw h)
    have x3 := fun v (h : Below wr.heap.size wr v) => t3 v (Below.more hw h)
    have HW := Lib.hid hw
    have b0 := Below.refl wr.heap.size wr
    have hB := Lib.hid (Nat.le_refl wr.heap.size)
    clear hw t0 t1 t2 t3
    go_wp2_with fail
    refine wp_region_noPanic ?_
    refine wp_region_held_drew (S := fun w' => Below wr.heap.size wr w') (by kernel_rfl) (b0.drew) (fun hH0 => ?_)
    refine sch_in [0, 1, 2, 3, 4, 5] ?_
    iterate 6 (refine sch_yes (v := ?_) rfl (by kernel_rfl) (by rfl) ?_ (by assumption) ?_; rotate_left 1; (· (intro w hSw; (try dsimp only at hSw); go_simp <;> (with_reducible rfl))); try simp only [Act.put, qA, qB, qC, qD, qE, qF])
    refine sch_out ?_
    refine wpAnyH_ready (rs := [6]) (by kernel_rfl) (by simp) ?_
    refine AllReadyH.cons rfl (fun K hK => ?_) AllReadyH.nil
    go_simp
    refine (held (W := wr) hB.out (CO.out _) (by assumption)).mono ?_
    rintro e w'' ⟨rfl, hb, hw⟩
    (try go_wp2_with fail)
    refine hK.out _ _ hw (fun hH1 => ?_)
    clear hK hH0 hb
    try simp only [Act.put, qA, qB, qC, qD, qE, qF]
    refine wpAnyH_take (i := 7) (v := ?_) rfl (by kernel_rfl) (by kernel_rfl) (by kernel_rfl) (fun _ _ _ h => h) (Or.inl ⟨by rfl, ?_⟩) (by assumption) ?_
    rotate_left 1
    ·(intro w hSw; (try dsimp only at hSw); go_simp <;> (with_reducible rfl))
    try simp only [Act.put, qA, qB, qC, qD, qE, qF]
    refine wpAnyH_done (by kernel_rfl) ?_ _
    refine NoPanic.normal ?_
    have b3 := hw
    clear hw
    go_wp2_with fail
    go_roundw
    case rel => exact ⟨lo, m, rfl, rfl, hm1, by omega, HL.out, HT.out, Below.more HW.out b3⟩
    case measure => simp [intOf]; omega
  ·obtain rfl : hi = lo := by omega
   have hr := rank_bound hil HL.out HI.out
   by_cases hn : hi < ls.length
   ·obtain ⟨⟨⟨a', s'⟩, ⟨n', d'⟩⟩, hx⟩ : ∃ x, ls[hi]? = some x := ⟨_, List.getElem?_eq_getElem (by omega)⟩
    obtain ⟨b, o, rfl, k0, k1, k2, k3⟩ := (HS.out.below hw).rule hx
    have co := fun w => porder_any a' s' n' d' a s n d w
    have HO := Lib.hid (there_of (z := ordK (a', s') (a, s)) (hr ▸ hx) rfl)
    have HR := Lib.hid hr
    generalize ordK (a', s') (a, s) = q at *
    have CO := Lib.hid co
    clear co hx hr HL HI HP
    have x0 := fun v (h : Below wr.heap.size wr v) => t0 v (Below.more hw h)
    have x1 := fun v (h : Below wr.heap.size wr v) => t1 v (Below.more hw h)
    have x2 := fun v (h : Below wr.heap.size wr v) => t2 v (Below.more hw h)
    have x3 := fun v (h : Below wr.heap.size wr v) => t3 v (Below.more hw h)
    have HW := Lib.hid hw
    have b0 := Below.refl wr.heap.size wr
    have hB := Lib.hid (Nat.le_refl wr.heap.size)
    clear hw t0 t1 t2 t3
    by_cases hq : q = 0
    ·go_wp2_with fail
     refine wp_region_noPanic ?_
     refine wp_region_held_drew (S := fun w' => Below wr.heap.size wr w') (by kernel_rfl) (b0.drew) (fun hH0 => ?_)
     refine sch_in [0, 1, 2, 3, 4, 5, 6, 7, 8, 9, 10] ?_
     iterate 11 (refine sch_yes (v := ?_) rfl (by kernel_rfl) (by rfl) ?_ (by assumption) ?_; rotate_left 1; (· (intro w hSw; (try dsimp only at hSw); go_simp <;> (with_reducible rfl))); try simp only [Act.put, qA, qB, qC, qD, qE, qF])
     refine sch_out ?_
     refine wpAnyH_ready (rs := [11]) (by kernel_rfl) (by simp) ?_
     refine AllReadyH.cons rfl (fun K hK => ?_) AllReadyH.nil
     go_simp
     refine (held (W := wr) hB.out (CO.out _) (by assumption)).mono ?_
     rintro e w'' ⟨rfl, hb, hw⟩
     (try go_wp2_with fail)
     refine hK.out _ _ hw (fun hH1 => ?_)
     clear hK hH0 hb
     try simp only [Act.put, qA, qB, qC, qD, qE, qF]
     refine sch_in [12, 13, 14, 15] ?_
     iterate 4 (refine sch_yes (v := ?_) rfl (by kernel_rfl) (by rfl) ?_ (by assumption) ?_; rotate_left 1; (· (intro w hSw; (try dsimp only at hSw); go_simp <;> (with_reducible rfl))); try simp only [Act.put, qA, qB, qC, qD, qE, qF])
     refine sch_out ?_
     refine wpAnyH_done (by kernel_rfl) ?_ _
     refine NoPanic.normal ?_
     have b3 := hw
     clear hw
     go_wp2_with fail
     go_ret2
     exact ⟨ret_ib (by rw [HR.out]) (by rw [HO.out, decide_eq_true hq]), Below.more BW.out (Below.more HW.out b3)⟩
    ·go_wp2_with fail
     refine wp_region_noPanic ?_
     refine wp_region_held_drew (S := fun w' => Below wr.heap.size wr w') (by kernel_rfl) (b0.drew) (fun hH0 => ?_)
     refine sch_in [0, 1, 2, 3, 4, 5, 6, 7, 8, 9, 10] ?_
     iterate 11 (refine sch_yes (v := ?_) rfl (by kernel_rfl) (by rfl) ?_ (by assumption) ?_; rotate_left 1; (· (intro w hSw; (try dsimp only at hSw); go_simp <;> (with_reducible rfl))); try simp only [Act.put, qA, qB, qC, qD, qE, qF])
     refine sch_out ?_
     refine wpAnyH_ready (rs := [11]) (by kernel_rfl) (by simp) ?_
     refine AllReadyH.cons rfl (fun K hK => ?_) AllReadyH.nil
     go_simp
     refine (held (W := wr) hB.out (CO.out _) (by assumption)).mono ?_
     rintro e w'' ⟨rfl, hb, hw⟩
     (try go_wp2_with fail)
     refine hK.out _ _ hw (fun hH1 => ?_)
     clear hK hH0 hb
     try simp only [Act.put, qA, qB, qC, qD, qE, qF]
     refine sch_in [12, 13, 14, 15] ?_
     iterate 4 (refine sch_yes (v := ?_) rfl (by kernel_rfl) (by rfl) ?_ (by assumption) ?_; rotate_left 1; (· (intro w hSw; (try dsimp only at hSw); go_simp <;> (with_reducible rfl))); try simp only [Act.put, qA, qB, qC, qD, qE, qF])
     refine sch_out ?_
     refine wpAnyH_done (by kernel_rfl) ?_ _
     refine NoPanic.normal ?_
     have b3 := hw
     clear hw
     go_wp2_with fail
     go_ret2
     exact ⟨ret_ib (by rw [HR.out]) (by rw [HO.out, decide_eq_false hq]; first | rfl | exact beq_false_of_ne hq), Below.more BW.out (Below.more HW.out b3)⟩
   ·have HO := Lib.hid (there_no (k := (a, s)) (by rw [← hr]; omega : ls.length ≤ rank ls (a, s)))
    have HR := Lib.hid hr
    clear hr HL HI HP
    have x0 := fun v (h : Below wr.heap.size wr v) => t0 v (Below.more hw h)
    have x1 := fun v (h : Below wr.heap.size wr v) => t1 v (Below.more hw h)
    have x2 := fun v (h : Below wr.heap.size wr v) => t2 v (Below.more hw h)
    have x3 := fun v (h : Below wr.heap.size wr v) => t3 v (Below.more hw h)
    have HW := Lib.hid hw
    have b0 := Below.refl wr.heap.size wr
    have hB := Lib.hid (Nat.le_refl wr.heap.size)
    clear hw t0 t1 t2 t3
    go_wp2_with fail
    refine wp_region_noPanic ?_
    refine wp_region_held_drew (S := fun w' => Below wr.heap.size wr w') (by kernel_rfl) (b0.drew) (fun hH0 => ?_)
    refine sch_in [0, 1, 2, 3, 4, 5, 6, 7, 8, 9, 10, 11, 12, 13, 14, 15] ?_
    iterate 16 (first | (refine sch_no rfl (by kernel_rfl) (by rfl) (by assumption) ?_; try simp only [Act.put, qA, qB, qC, qD, qE, qF]) | (refine sch_yes (v := ?_) rfl (by kernel_rfl) (by rfl) ?_ (by assumption) ?_; rotate_left 1; (· (intro w hSw; (try dsimp only at hSw); go_simp <;> (with_reducible rfl))); try simp only [Act.put, qA, qB, qC, qD, qE, qF]))
    refine sch_out ?_
    refine wpAnyH_done (by kernel_rfl) ?_ _
    refine NoPanic.normal ?_
    have b3 := hH0
    clear hH0
    go_wp2_with fail
    go_ret2
    exact ⟨ret_ib (by rw [HR.out]) (by rw [HO.out]), Below.more BW.out (Below.more HW.out b3)⟩
set_option maxRecDepth 100000 in
set_option maxHeartbeats 4000000 in
theorem pgrow_any (n : Nat) (w : World) (hn : n ≤ 3000000) :
  Calls Tryz.prog 108 #[.slice none 0 0, .int .i64 n] w fun e w' => ∃ v, e = .returned v ∧ Own w.heap.size w' v [] ∧ Below w.heap.size w w' := by
 obtain ⟨i0, hi, hz0, hz1, hz2⟩ := info_parts lnInfo
 by_cases h0 : n = 0
 ·subst h0
  go_enter Tryz.func108, Tryz.ntmps108
  go_wp2_with fail
  go_ret
  exact ⟨_, rfl, World.ownsRow_nil _ _ _ _, Below.refl _ _⟩
 ·have happ := Lib.run_append_nil_zeros (P := Tryz.prog) w 23 3 23 46 i0 (.agg #[.string ⟨#[]⟩, .string ⟨#[]⟩, .string ⟨#[]⟩, .string ⟨#[]⟩]) .i64 .i64 Tryz.underlying23 Tryz.underlying3 hi hz0 n (by omega) (by rw [hz1]; decide) (by omega) (by rw [hz2]; omega)
  have hge := grownCap_ge w n 0 46
  have hcm := grownCap_le_maxLen w n 0 46 (by unfold maxLen; omega)
  generalize grownCap w n 0 46 = cap at *
  have hn0 : (0 : Int) < (n : Int) := by omega
  have hc0 : ¬ cap = 0 := by omega
  obtain ⟨C, hC⟩ : ∃ C, Builtin.zeroCells (Value.agg #[.string ⟨#[]⟩, .string ⟨#[]⟩, .string ⟨#[]⟩, .string ⟨#[]⟩]).cells n ++ Builtin.zeroCells (Value.agg #[.string ⟨#[]⟩, .string ⟨#[]⟩, .string ⟨#[]⟩, .string ⟨#[]⟩]).cells (cap - n) = C := ⟨_, rfl⟩
  have hCs : C.size = cap * 4 := by
   rw [← hC, Array.size_append, size_zeroCells, size_zeroCells]
   show n * 4 + (cap - n) * 4 = cap * 4
   omega
  rw [hC] at happ
  clear hC h0
  go_enter Tryz.func108, Tryz.ntmps108
  go_wp2_with (at_builtin; refine Lib.wpList_append_run _ rfl _ _ _ _ rfl _ _ rfl rfl _ _ happ ?_)
  go_ret
  refine ⟨_, rfl, ⟨rfl, .inr ⟨w.heap.size, cap, C, rfl, Nat.le_refl _, heap_alloc_new w.drew _, Nat.zero_le _, hcm, hCs, ?_⟩⟩, Below.alloc (Below.refl _ _).drew (Nat.le_refl _) _⟩
  show C.toList.take (0 * 4) = []
  rw [Nat.zero_mul, List.take_zero]
abbrev Pt := (Option Addr × Nat) × List Ln
def ptL (ps : List Pt) : List Ln := ps.flatMap (·.2)
theorem ptL_more {ps : List Pt} {k : Nat} {x : Pt} (hx : ps[k]? = some x) : ptL (ps.take (k + 1)) = ptL (ps.take k) ++ x.2 := by
 unfold ptL
 rw [List.take_add_one, hx, List.flatMap_append]
 congr 1
 show x.2 ++ [] = x.2
 rw [List.append_nil]
theorem ptL_len {ps : List Pt} (h : ∀ x ∈ ps, x.2.length ≤ 1000000) : (ptL ps).length ≤ ps.length * 1000000 := by
 induction ps with
 | nil => exact Nat.zero_le _
 | cons x r ih =>
  have h1 := h x (List.mem_cons_self ..)
  have h2 := ih fun y hy => h y (List.mem_cons_of_mem _ hy)
  show (x.2 ++ ptL r).length ≤ (r.length + 1) * 1000000
  rw [List.length_append]; omega
set_option maxRecDepth 100000 in
set_option maxHeartbeats 4000000 in
theorem pconcat_any (vb : Nat) (ps : List Pt) (w : World) (hvb : vb < w.heap.size) (hm : ps.length ≤ 3) (hv : ∀ (j : Nat) (x : Pt), ps[j]? = some x → w.cell? ⟨vb, j, none⟩ = some (.slice x.1.1 x.2.length x.1.2)) (hL : ∀ x ∈ ps, Lns w x.1.1 x.2) (hl : ∀ x ∈ ps, x.2.length ≤ 1000000) :
  Calls Tryz.prog 88 #[.slice (some ⟨vb, 0, none⟩) ps.length ps.length] w (GiveRo w (ptL ps)) := by
 obtain ⟨i0, hi, hz0, hz1, hz2⟩ := info_parts lnInfo
 have hS : ∀ k, (ptL (ps.take k)).length ≤ 3000000 := fun k => by
  have h1 := ptL_len (ps := ps.take k) fun x hx => hl x (List.mem_of_mem_take hx)
  rw [List.length_take] at h1
  have : min k ps.length * 1000000 ≤ 3 * 1000000 := Nat.mul_le_mul_right _ (by omega)
  omega
 have HV := Lib.hid hv; have HL := Lib.hid hL; have HS := Lib.hid hS
 have hp3 : ps.length ≤ 4611686018427387904 := by omega
 clear hv hL hS hl hm
 go_enter Tryz.func88, Tryz.ntmps88
 go_wp2
 go_loop [3, 11] (fun z i => ∃ k : Nat, k ≤ ps.length ∧ i = .int .i64 k ∧ z = .int .i64 (ptL (ps.take k)).length) (fun _ i => ps.length - (intOf i).toNat)
 case atStart => exact ⟨0, Nat.zero_le _, rfl, rfl⟩
 case round =>
  obtain ⟨k, hk, rfl, rfl⟩ := hrel
  by_cases hlt : k < ps.length
  ·obtain ⟨⟨⟨p, c⟩, l⟩, hx⟩ : ∃ x, ps[k]? = some x := ⟨_, List.getElem?_eq_getElem hlt⟩
   have hc := HV.out k _ hx
   dsimp only at hc
   have h1 := HS.out (k + 1)
   have h2 : (ptL (ps.take (k + 1))).length = (ptL (ps.take k)).length + l.length := by rw [ptL_more hx, List.length_append]
   rw [h2] at h1
   have HN := Lib.hid h2
   clear h2 hx
   generalize (ptL (ps.take k)).length = S at *
   generalize l.length = N at *
   have hw : IntKind.i64.wrap ((S : Int) + (N : Int)) = (S : Int) + (N : Int) := IntWalk.i64_in _ (by omega)
   have hneg : ¬ ((S : Int) + (N : Int) < 0) := by omega
   go_wp2
   go_round
   case rel => exact ⟨k + 1, hlt, by go_num, by rw [HN.out]; go_num⟩
   case measure => simp [intOf]; omega
  ·obtain rfl : k = ps.length := by omega
   rw [List.take_length]
   have h3 := HS.out ps.length
   rw [List.take_length] at h3
   have cg := pgrow_any (ptL ps).length
   have CG := Lib.hid cg
   clear cg hlt
   go_wp2_with fail
   refine (CG.out _ h3).mono ?_
   rintro e w1 ⟨v, rfl, hown, hbw⟩
   have hO := Lib.hid hown; have hW := Lib.hid hbw
   clear hown hbw CG h3
   go_wp2_with fail
   go_loopw [6, 27] (fun out i wr => ∃ k : Nat, k ≤ ps.length ∧ i = .int .i64 k ∧ Own w.heap.size wr out (ptL (ps.take k)) ∧ Below w.heap.size w wr) (fun _ i _ => ps.length - (intOf i).toNat)
   case atStart => exact ⟨0, Nat.zero_le _, rfl, hO.out, hW.out⟩
   case round =>
    clear hO hW
    obtain ⟨k, hk, rfl, hown, hbw⟩ := hrel
    by_cases hlt : k < ps.length
    ·obtain ⟨⟨⟨p, c⟩, l⟩, hx⟩ : ∃ x, ps[k]? = some x := ⟨_, List.getElem?_eq_getElem hlt⟩
     have hc := (hbw.cell (p := ⟨vb, k, none⟩) hvb).trans (HV.out k _ hx)
     dsimp only at hc
     have hll := (HL.out _ (List.mem_of_getElem? hx)).below hbw
     dsimp only at hll
     have HT := Lib.hid (ptL_more hx)
     have h1 := HS.out (k + 1)
     rw [HT.out, List.length_append] at h1
     have HS1 := Lib.hid h1
     have hO := Lib.hid hown; have hW := Lib.hid hbw
     clear hown hbw hx h1
     cases p with
     | none =>
      obtain rfl := hll.none
      have happ := run_append_none (P := Tryz.prog) (w := wr) w.heap.size 23 23 46 i0 4 c Tryz.underlying23 hi _ _ _ hO.out
      have hT2 : Hid (ptL (ps.take (k + 1)) = ptL (ps.take k)) := Lib.hid (by rw [HT.out]; exact List.append_nil _)
      clear hll
      go_wp2_with (at_builtin; refine Lib.wpList_append_run _ rfl _ _ _ _ rfl _ _ rfl rfl _ _ happ ?_)
      go_roundw
      case rel => exact ⟨k + 1, hlt, by go_num, by rw [hT2.out]; exact hO.out, hW.out⟩
      case measure => simp [intOf]; omega
     | some ad =>
      have HC := Lib.hid hll.cells
      clear hll
      go_wp2_with (at_builtin; refine halt ?_)
      show wpList _ _ _ _ _ _
      refine wpList_append_own _ rfl _ _ 23 rfl w.heap.size 46 i0 (.agg #[.string ⟨#[]⟩, .string ⟨#[]⟩, .string ⟨#[]⟩, .string ⟨#[]⟩]) 4 64 Tryz.underlying23 hi hz0 hz1 hz2 rfl (by decide) _ _ _ rfl hO.out ad l.length c (cellsL l) rfl (cellsL_len l) HC.out (cellsL_one l) (by unfold maxLen; have := HS1.out; omega) (by have := HS1.out; omega) (Below.size hW.out) ?_
      intro v' w3 hown' hgrow' hnil'
      have hbw' : Below w.heap.size w w3 := Below.grown hW.out hgrow' (Below.size hW.out) (fun j hj => (World.ownsRow.lt hO.out _ hj).1)
      have X : Hid (Own w.heap.size w3 v' (ptL (ps.take (k + 1))) ∧ Below w.heap.size w w3) := Lib.hid ⟨own_more hown' HT.out, hbw'⟩
      clear hown' hgrow' hnil' hbw'
      go_wp2_with fail
      go_roundw
      case rel => exact ⟨k + 1, hlt, by go_num, X.out.1, X.out.2⟩
      case measure => simp [intOf]; omega
    ·obtain rfl : k = ps.length := by omega
     rw [List.take_length] at hown
     have hO := Lib.hid hown; have hW := Lib.hid hbw
     clear hown hbw
     go_wp2_with fail
     go_ret
     exact giveRo (giveL hO.out hW.out)
set_option maxRecDepth 100000 in
set_option maxHeartbeats 4000000 in
theorem pclone_any (p : Option Addr) (c : Nat) (ls : List Ln) (w : World) (hl : ls.length ≤ 1000000) (h : Lns w p ls) :
  Calls Tryz.prog 103 #[.slice p ls.length c] w fun e w' => ∃ v, e = .returned v ∧ Own w.heap.size w' v ls ∧ Below w.heap.size w w' := by
 cases p with
 | none =>
  obtain rfl := h.none
  have hnil := fun w => Lib.run_eql_slice_nil_nil (P := Tryz.prog) w (t := 22) 0 c Tryz.underlying22
  go_enter Tryz.func103, Tryz.ntmps103
  go_wp2_with fail
  go_ret
  exact ⟨_, rfl, World.ownsRow_nil _ _ _ _, Below.refl _ _⟩
 | some ad =>
  have HS := Lib.hid h; clear h
  have hnil := fun w => Lib.run_eql_slice_some_nil (P := Tryz.prog) w (t := 22) ad ls.length c Tryz.underlying22
  go_enter Tryz.func103, Tryz.ntmps103
  go_wp2_with (at_builtin; refine halt ?_)
  show wpList _ _ _ _ _ _
  refine wpList_append_lns rfl _ _ 22 rfl w.heap.size Tryz.underlying22 _ [] rfl (own_empty w (Nat.le_refl _)) (some ad) ls c rfl (HS.out.below (Below.step _ (Below.refl _ _))) (by decide) (by omega) (Below.size (Below.step _ (Below.refl _ _))) ?_
  intro v w1 o1 h1
  have X := Lib.hid o1; have Y := Lib.hid ((Below.step _ (Below.refl _ _)).trans h1)
  clear o1 h1
  go_wp2_with fail
  go_ret
  exact ⟨_, rfl, X.out, Y.out⟩
theorem lay1 (w : World) (a : Value) (t : TypeId) : ∃ U, w.alloc (.cells #[a] t) = U ∧ Below w.heap.size w U ∧ w.heap.size + 1 = U.heap.size ∧ (∀ v, Below U.heap.size U v → v.cell? ⟨w.heap.size, 0, none⟩ = some a) := by
 refine ⟨_, rfl, Below.step _ (Below.refl _ _), by simp, fun v hv => ?_⟩
 exact (hv.cell (p := ⟨w.heap.size, 0, none⟩) (by simp)).trans (cell_new w _ _ _ rfl 0)
set_option maxRecDepth 100000 in
set_option maxHeartbeats 4000000 in
theorem pdiff_same (bx b o n c : Nat) (a s x y a' s' x' y' : List UInt8) (q : Int) (w : World) (hn : 0 < n) (hq : q = 0) (hx : bx < w.heap.size)
  (hc : w.cell? ⟨bx, 0, none⟩ = some (.slice (some ⟨b, o, none⟩) n c)) (hb : b < w.heap.size)
  (h0 : w.cell? ⟨b, o, none⟩ = some (.string ⟨a'.toArray⟩)) (h1 : w.cell? ⟨b, o + 1, none⟩ = some (.string ⟨s'.toArray⟩)) (h2 : w.cell? ⟨b, o + 2, none⟩ = some (.string ⟨x'.toArray⟩)) (h3 : w.cell? ⟨b, o + 3, none⟩ = some (.string ⟨y'.toArray⟩))
  (CO : Hid (∀ V, Calls Tryz.prog 105 #[.agg #[.string ⟨a.toArray⟩, .string ⟨s.toArray⟩, .string ⟨x.toArray⟩, .string ⟨y.toArray⟩], .agg #[.string ⟨a'.toArray⟩, .string ⟨s'.toArray⟩, .string ⟨x'.toArray⟩, .string ⟨y'.toArray⟩]] V (GiveI V q))) :
  Calls Tryz.prog 129 #[.agg #[.string ⟨a.toArray⟩, .string ⟨s.toArray⟩, .string ⟨x.toArray⟩, .string ⟨y.toArray⟩], .pointer (some ⟨bx, 0, none⟩)] w (GiveB w false) := by
 have hn0 : (0 : Int) < (n : Int) := by omega
 go_enter Tryz.func129, Tryz.ntmps129
 go_wp2_with fail
 obtain ⟨U, hU, bU, s1, r0, r1, r2, r3⟩ := lay4 (Below.refl w.heap.size w) (.string ⟨a.toArray⟩) (.string ⟨s.toArray⟩) (.string ⟨x.toArray⟩) (.string ⟨y.toArray⟩) 46
 rw [hU]; clear hU s1
 have kc := fun v (h : Below U.heap.size U v) => ((Below.more bU h).cell (p := ⟨bx, 0, none⟩) hx).trans hc
 have k0 := fun v (h : Below U.heap.size U v) => ((Below.more bU h).cell (p := ⟨b, o, none⟩) hb).trans h0
 have k1 := fun v (h : Below U.heap.size U v) => ((Below.more bU h).cell (p := ⟨b, o + 1, none⟩) hb).trans h1
 have k2 := fun v (h : Below U.heap.size U v) => ((Below.more bU h).cell (p := ⟨b, o + 2, none⟩) hb).trans h2
 have k3 := fun v (h : Below U.heap.size U v) => ((Below.more bU h).cell (p := ⟨b, o + 3, none⟩) hb).trans h3
 have b0 := Below.refl U.heap.size U
 have hB := Lib.hid (Nat.le_refl U.heap.size)
 have BW := Lib.hid bU
 clear hx hc hb h0 h1 h2 h3 bU
 go_wp2_with fail
 first | (go_region_held3 (fun w' => Below U.heap.size U w')
    (first | (exact b0.drew) | (with_reducible assumption) | (exact Below.alloc (by with_reducible assumption) (Nat.le_trans hB.out (Below.size (by with_reducible assumption))) _))
    (first | (go_at_call 105; (with_reducible refine (held (W := U) hB.out (CO.out _) (by assumption)).mono ?_); rintro e w'' ⟨rfl, hb, hw⟩))) | fail
 all_goals (go_wp2_with fail)
 all_goals go_ret
 all_goals (exact ⟨by first | rfl | (congr 2; simp [hq]), Below.more BW.out (by with_reducible assumption)⟩)
set_option maxRecDepth 100000 in
set_option maxHeartbeats 4000000 in
theorem pdiff_other (bx b o n c : Nat) (a s x y a' s' x' y' : List UInt8) (q : Int) (w : World) (hn : 0 < n) (hq : ¬ q = 0) (hx : bx < w.heap.size)
  (hc : w.cell? ⟨bx, 0, none⟩ = some (.slice (some ⟨b, o, none⟩) n c)) (hb : b < w.heap.size)
  (h0 : w.cell? ⟨b, o, none⟩ = some (.string ⟨a'.toArray⟩)) (h1 : w.cell? ⟨b, o + 1, none⟩ = some (.string ⟨s'.toArray⟩)) (h2 : w.cell? ⟨b, o + 2, none⟩ = some (.string ⟨x'.toArray⟩)) (h3 : w.cell? ⟨b, o + 3, none⟩ = some (.string ⟨y'.toArray⟩))
  (CO : Hid (∀ V, Calls Tryz.prog 105 #[.agg #[.string ⟨a.toArray⟩, .string ⟨s.toArray⟩, .string ⟨x.toArray⟩, .string ⟨y.toArray⟩], .agg #[.string ⟨a'.toArray⟩, .string ⟨s'.toArray⟩, .string ⟨x'.toArray⟩, .string ⟨y'.toArray⟩]] V (GiveI V q))) :
  Calls Tryz.prog 129 #[.agg #[.string ⟨a.toArray⟩, .string ⟨s.toArray⟩, .string ⟨x.toArray⟩, .string ⟨y.toArray⟩], .pointer (some ⟨bx, 0, none⟩)] w (GiveB w true) := by
 have hn0 : (0 : Int) < (n : Int) := by omega
 go_enter Tryz.func129, Tryz.ntmps129
 go_wp2_with fail
 obtain ⟨U, hU, bU, s1, r0, r1, r2, r3⟩ := lay4 (Below.refl w.heap.size w) (.string ⟨a.toArray⟩) (.string ⟨s.toArray⟩) (.string ⟨x.toArray⟩) (.string ⟨y.toArray⟩) 46
 rw [hU]; clear hU s1
 have kc := fun v (h : Below U.heap.size U v) => ((Below.more bU h).cell (p := ⟨bx, 0, none⟩) hx).trans hc
 have k0 := fun v (h : Below U.heap.size U v) => ((Below.more bU h).cell (p := ⟨b, o, none⟩) hb).trans h0
 have k1 := fun v (h : Below U.heap.size U v) => ((Below.more bU h).cell (p := ⟨b, o + 1, none⟩) hb).trans h1
 have k2 := fun v (h : Below U.heap.size U v) => ((Below.more bU h).cell (p := ⟨b, o + 2, none⟩) hb).trans h2
 have k3 := fun v (h : Below U.heap.size U v) => ((Below.more bU h).cell (p := ⟨b, o + 3, none⟩) hb).trans h3
 have b0 := Below.refl U.heap.size U
 have hB := Lib.hid (Nat.le_refl U.heap.size)
 have BW := Lib.hid bU
 clear hx hc hb h0 h1 h2 h3 bU
 go_wp2_with fail
 first | (go_region_held3 (fun w' => Below U.heap.size U w')
    (first | (exact b0.drew) | (with_reducible assumption) | (exact Below.alloc (by with_reducible assumption) (Nat.le_trans hB.out (Below.size (by with_reducible assumption))) _))
    (first | (go_at_call 105; (with_reducible refine (held (W := U) hB.out (CO.out _) (by assumption)).mono ?_); rintro e w'' ⟨rfl, hb, hw⟩))) | fail
 all_goals (go_wp2_with fail)
 all_goals go_ret
 all_goals (exact ⟨by first | rfl | (congr 2; simp [hq]), Below.more BW.out (by with_reducible assumption)⟩)
def idxL (l : List Ln) : Int := if manyL l < l.length then (manyL l : Int) else -1
theorem idx_at {x : Ln} {r : List Ln} {j : Nat} {y : Ln} (h : ∀ i z, i < j → (x :: r)[i]? = some z → z.1 = x.1) (hy : (x :: r)[j]? = some y) (hne : y.1 ≠ x.1) : idxL (x :: r) = (j : Int) := by
 have e := many_at h hy hne
 unfold idxL
 rw [e, if_pos (List.getElem?_eq_some_iff.1 hy).1]
theorem idx_none {x : Ln} {r : List Ln} (h : ∀ i z, i < (x :: r).length → (x :: r)[i]? = some z → z.1 = x.1) : idxL (x :: r) = -1 := by
 have e := many_all (x := x) (r := r) fun z hz => by
  obtain ⟨i, hi, rfl⟩ := List.getElem_of_mem hz
  exact h i _ hi (List.getElem?_eq_getElem hi)
 unfold idxL
 rw [e, if_neg (Nat.lt_irrefl _)]
set_option maxRecDepth 100000 in
set_option maxHeartbeats 4000000 in
theorem pidx_any (b o c bx : Nat) (x0 : Ln) (r : List Ln) (w : World) (hl : (x0 :: r).length ≤ 1000000) (h : Lns w (some ⟨b, o, none⟩) (x0 :: r))
  (CC : Hid (∀ V (x : Ln), Below w.heap.size w V → Calls Tryz.prog 129 #[.agg #[.string ⟨x.1.1.toArray⟩, .string ⟨x.1.2.toArray⟩, .string ⟨x.2.1.toArray⟩, .string ⟨x.2.2.toArray⟩], .pointer (some ⟨bx, 0, none⟩)] V (GiveB V (!(x.1 == x0.1))))) :
  Calls Tryz.prog 128 #[.slice (some ⟨b, o, none⟩) (x0 :: r).length c, .func (.func 129) #[] #[.pointer (some ⟨bx, 0, none⟩)]] w (GiveI w (idxL (x0 :: r))) := by
 have HI := Lib.hid (fun (j : Nat) (y : Ln) => idx_at (x := x0) (r := r) (j := j) (y := y))
 have HE := Lib.hid (idx_none (x := x0) (r := r))
 generalize hL : x0 :: r = L at *
 clear hL
 have HS := Lib.hid h; clear h
 go_enter Tryz.func128, Tryz.ntmps128
 go_wp2
 go_loopw [8] (fun i wr => ∃ k : Nat, k ≤ L.length ∧ i = .int .i64 k ∧ Hid (∀ j z, j < k → L[j]? = some z → z.1 = x0.1) ∧ Below w.heap.size w wr) (fun i _ => L.length - (intOf i).toNat)
 case atStart => exact ⟨0, Nat.zero_le _, rfl, fun j z h => absurd h (Nat.not_lt_zero j), Below.refl _ _⟩
 case round =>
  obtain ⟨k, hk, rfl, HJ, hw⟩ := hrel
  by_cases hlt : k < L.length
  ·obtain ⟨⟨⟨a, s⟩, ⟨n, d⟩⟩, hx⟩ : ∃ x, L[k]? = some x := ⟨_, List.getElem?_eq_getElem hlt⟩
   obtain ⟨b', o', hp, k0, k1, k2, k3⟩ := (HS.out.below hw).rule hx
   cases hp
   have cc := CC.out wr ((a, s), (n, d)) hw
   dsimp only at cc
   have bw := Below.refl wr.heap.size wr
   have q0 := k0 _ bw; have q1 := k1 _ bw; have q2 := k2 _ bw; have q3 := k3 _ bw
   by_cases he : (a, s) = x0.1
   ·rw [beq_iff_eq.2 he] at cc
    have HJ2 : Hid (∀ j z, j < k + 1 → L[j]? = some z → z.1 = x0.1) := Lib.hid fun j z hj hz => by
     rcases Nat.lt_or_eq_of_le (Nat.le_of_lt_succ hj) with g | g
     ·exact HJ.out j z g hz
     ·subst g; rw [hx] at hz; obtain rfl := Option.some.inj hz; exact he
    have CK := Lib.hid cc
    have HW := Lib.hid hw
    clear cc hx he hw bw k0 k1 k2 k3
    go_wp2_with fail
    refine CK.out.mono ?_
    rintro e w1 ⟨rfl, b1⟩
    go_wp2_with fail
    go_roundw
    case rel => exact ⟨k + 1, hlt, by go_num, HJ2.out, Below.more HW.out b1⟩
    case measure => simp [intOf]; omega
   ·rw [beq_false_of_ne he] at cc
    have HO := Lib.hid (HI.out k _ HJ.out hx he)
    have CK := Lib.hid cc
    have HW := Lib.hid hw
    clear cc hx he hw bw k0 k1 k2 k3
    go_wp2_with fail
    refine CK.out.mono ?_
    rintro e w1 ⟨rfl, b1⟩
    go_wp2_with fail
    go_ret
    exact ⟨ret_int (by rw [HO.out]), Below.more HW.out b1⟩
  ·obtain rfl : k = L.length := by omega
   have HO := Lib.hid (HE.out HJ.out)
   have HW := Lib.hid hw
   clear hw
   go_wp2_with fail
   go_ret
   exact ⟨ret_int (by rw [HO.out]), HW.out⟩
set_option maxRecDepth 100000 in
set_option maxHeartbeats 4000000 in
theorem pal_no (p : Option Addr) (n c : Nat) (w : World)
  (CI : Hid (∀ V, Below w.heap.size w V → V.cell? ⟨w.heap.size, 0, none⟩ = some (.slice p n c) → w.heap.size < V.heap.size → Calls Tryz.prog 128 #[.slice p n c, .func (.func 129) #[] #[.pointer (some ⟨w.heap.size, 0, none⟩)]] V (GiveI V (-1)))) :
  Calls Tryz.prog 106 #[.slice p n c] w (GiveI w n) := by
 go_enter Tryz.func106, Tryz.ntmps106
 go_wp2_with fail
 obtain ⟨U, hU, bU, s1, r0⟩ := lay1 w (.slice p n c) 22
 rw [hU]; clear hU
 have b0 := Below.refl U.heap.size U
 refine (CI.out _ bU (r0 _ b0) (by omega)).mono ?_
 rintro e w1 ⟨rfl, b⟩
 have b1 := Below.more b0 b
 clear b
 go_wp2_with fail
 go_ret
 exact ⟨rfl, Below.more bU b1⟩
set_option maxRecDepth 100000 in
set_option maxHeartbeats 4000000 in
theorem pal_yes (p : Option Addr) (n c m : Nat) (w : World)
  (CI : Hid (∀ V, Below w.heap.size w V → V.cell? ⟨w.heap.size, 0, none⟩ = some (.slice p n c) → w.heap.size < V.heap.size → Calls Tryz.prog 128 #[.slice p n c, .func (.func 129) #[] #[.pointer (some ⟨w.heap.size, 0, none⟩)]] V (GiveI V (m : Int)))) :
  Calls Tryz.prog 106 #[.slice p n c] w (GiveI w m) := by
 have hm : ¬ (m : Int) < 0 := by omega
 go_enter Tryz.func106, Tryz.ntmps106
 go_wp2_with fail
 obtain ⟨U, hU, bU, s1, r0⟩ := lay1 w (.slice p n c) 22
 rw [hU]; clear hU
 have b0 := Below.refl U.heap.size U
 refine (CI.out _ bU (r0 _ b0) (by omega)).mono ?_
 rintro e w1 ⟨rfl, b⟩
 have b1 := Below.more b0 b
 clear b
 go_wp2_with fail
 go_ret
 exact ⟨rfl, Below.more bU b1⟩
theorem palike_any (b o c : Nat) (x0 : Ln) (r : List Ln) (w : World) (hl : (x0 :: r).length ≤ 1000000) (h : Lns w (some ⟨b, o, none⟩) (x0 :: r)) :
  Calls Tryz.prog 106 #[.slice (some ⟨b, o, none⟩) (x0 :: r).length c] w (GiveI w (manyL (x0 :: r))) := by
 have ci : ∀ V, Below w.heap.size w V → V.cell? ⟨w.heap.size, 0, none⟩ = some (.slice (some ⟨b, o, none⟩) (x0 :: r).length c) → w.heap.size < V.heap.size → Calls Tryz.prog 128 #[.slice (some ⟨b, o, none⟩) (x0 :: r).length c, .func (.func 129) #[] #[.pointer (some ⟨w.heap.size, 0, none⟩)]] V (GiveI V (idxL (x0 :: r))) := fun V hV hc hx => by
  refine pidx_any b o c w.heap.size x0 r V hl (h.below hV) (Lib.hid fun V' x hV' => ?_)
  have hV2 := Below.more hV hV'
  have hh := h.below hV2
  obtain ⟨b', o', hp, hbl, c0, c1, c2, c3⟩ := hh 0 x0 rfl
  cases hp
  simp only [Nat.zero_mul, Nat.add_zero] at c0 c1 c2 c3
  have hcc := (hV'.cell (p := ⟨w.heap.size, 0, none⟩) hx).trans hc
  have hxx : w.heap.size < V'.heap.size := Nat.lt_of_lt_of_le hx hV'.size
  obtain ⟨⟨a, s⟩, ⟨n, d⟩⟩ := x
  obtain ⟨⟨a', s'⟩, ⟨n', d'⟩⟩ := x0
  have CO := Lib.hid fun V => porder_any a s n d a' s' n' d' V
  by_cases e : (a, s) = (a', s')
  ·show Calls _ _ _ _ (GiveB V' (!((a, s) == (a', s'))))
   rw [beq_iff_eq.2 e]
   exact pdiff_same w.heap.size b o _ c a s n d a' s' n' d' _ V' (Nat.succ_pos _) (ord_zero.2 e) hxx hcc hbl c0 c1 c2 c3 CO
  ·show Calls _ _ _ _ (GiveB V' (!((a, s) == (a', s'))))
   rw [beq_false_of_ne e]
   exact pdiff_other w.heap.size b o _ c a s n d a' s' n' d' _ V' (Nat.succ_pos _) (fun k => e (ord_zero.1 k)) hxx hcc hbl c0 c1 c2 c3 CO
 by_cases hm : manyL (x0 :: r) < (x0 :: r).length
 ·have e : idxL (x0 :: r) = (manyL (x0 :: r) : Int) := by unfold idxL; rw [if_pos hm]
  rw [e] at ci
  exact pal_yes _ _ _ _ w (Lib.hid ci)
 ·have e : idxL (x0 :: r) = -1 := by unfold idxL; rw [if_neg hm]
  rw [e] at ci
  have e2 : manyL (x0 :: r) = (x0 :: r).length := Nat.le_antisymm (many_le _) (Nat.le_of_not_lt hm)
  rw [e2]
  exact pal_no _ _ _ w (Lib.hid ci)
end Go.Proofs.YtagfndkfjbbpjaaGreatDoor
