/- Plain words of the program's book: the order of two keys as a number, a place found by halves, a line put into a row that is cut there, sums by halves. Own work; no program text. -/
import Derived.Test.YtamibckbebifkaaGreatDoorBookNum
namespace Go.Proofs.YtamibckbebifkaaGreatDoor

/-! Two texts' order, as a number. -/
theorem cmp_lt : ∀ {a b : List UInt8}, Op.bytesLess a b = true → Lib.compareBytes a b = -1
  | _, [], h => by rw [less_nil] at h; cases h
  | [], _ :: _, _ => rfl
  | x :: a, y :: b, h => by
    have h : (decide (x < y) || (x == y && Op.bytesLess a b)) = true := h
    show (if x < y then -1 else if y < x then 1 else Lib.compareBytes a b) = (-1 : Int)
    simp only [Bool.or_eq_true, Bool.and_eq_true, decide_eq_true_eq, beq_iff_eq] at h
    by_cases hlt : x < y
    · rw [if_pos hlt]
    · rcases h with h | ⟨h, h'⟩
      · exact absurd h hlt
      · subst h
        rw [if_neg hlt, if_neg hlt, cmp_lt h']
theorem cmp_self : ∀ a : List UInt8, Lib.compareBytes a a = 0
  | [] => rfl
  | x :: a => by
    show (if x < x then -1 else if x < x then 1 else Lib.compareBytes a a) = (0 : Int)
    have h : ¬ x < x := by rw [UInt8.lt_iff_toNat_lt]; omega
    rw [if_neg h, if_neg h, cmp_self a]
theorem cmp_gt : ∀ {a b : List UInt8}, Op.bytesLess b a = true → Lib.compareBytes a b = 1
  | [], b, h => by rw [less_nil] at h; cases h
  | _ :: _, [], _ => rfl
  | x :: a, y :: b, h => by
    have h : (decide (y < x) || (y == x && Op.bytesLess b a)) = true := h
    show (if x < y then -1 else if y < x then 1 else Lib.compareBytes a b) = (1 : Int)
    simp only [Bool.or_eq_true, Bool.and_eq_true, decide_eq_true_eq, beq_iff_eq] at h
    rcases h with h | ⟨h, h'⟩
    · have h2 : ¬ x < y := by rw [UInt8.lt_iff_toNat_lt] at h ⊢; omega
      rw [if_neg h2, if_pos h]
    · subst h
      have h2 : ¬ y < y := by rw [UInt8.lt_iff_toNat_lt]; omega
      rw [if_neg h2, if_neg h2, cmp_gt h']
/-- The order of two keys, as a number: the first one that is not 0. -/
def orZ (a b : Int) : Int := if a = 0 then b else a
def ordK (k l : Key) : Int := orZ (Lib.compareBytes k.1 l.1) (Lib.compareBytes k.2 l.2)
theorem ord_lt {k l : Key} (h : aheadK k l = true) : ordK k l = -1 := by
  unfold aheadK at h
  unfold ordK orZ
  simp only [Bool.or_eq_true, Bool.and_eq_true, beq_iff_eq] at h
  rcases h with h | ⟨h, h'⟩
  · rw [cmp_lt h]; rfl
  · rw [h, cmp_self, if_pos rfl, cmp_lt h']
theorem ord_self (k : Key) : ordK k k = 0 := by unfold ordK orZ; rw [cmp_self, cmp_self]; rfl
theorem ord_gt {k l : Key} (h : aheadK l k = true) : ordK k l = 1 := by
  unfold aheadK at h
  unfold ordK orZ
  simp only [Bool.or_eq_true, Bool.and_eq_true, beq_iff_eq] at h
  rcases h with h | ⟨h, h'⟩
  · rw [cmp_gt h]; rfl
  · rw [h, cmp_self, if_pos rfl, cmp_gt h']
theorem ord_neg {k l : Key} : ordK k l < 0 ↔ aheadK k l = true := by
  rcases ahead_cases k l with h | h | h
  · rw [ord_lt h]; exact ⟨fun _ => h, fun _ => by decide⟩
  · subst h; rw [ord_self, ahead_irrefl]; exact ⟨fun h => absurd h (by decide), fun h => by cases h⟩
  · rw [ord_gt h, ahead_asym h]; exact ⟨fun h => absurd h (by decide), fun h => by cases h⟩
theorem ord_zero {k l : Key} : ordK k l = 0 ↔ k = l := by
  rcases ahead_cases k l with h | h | h
  · rw [ord_lt h]; exact ⟨fun h => absurd h (by decide), fun e => absurd e (ahead_ne h)⟩
  · subst h; rw [ord_self]; exact ⟨fun _ => rfl, fun _ => rfl⟩
  · rw [ord_gt h]; exact ⟨fun h => absurd h (by decide), fun e => absurd e.symm (ahead_ne h)⟩
theorem ord_geq (k l : Key) : decide (0 ≤ ordK k l) = !aheadK k l := by
  cases h : aheadK k l with
  | true => rw [ord_lt h]; rfl
  | false =>
    refine decide_eq_true ?_
    rcases Int.lt_or_le (ordK k l) 0 with c | c
    · rw [ord_neg.1 c] at h; cases h
    · exact c
theorem orZ_left {a b : Int} (h : a ≠ 0) : orZ a b = a := if_neg h
theorem orZ_right (b : Int) : orZ 0 b = b := if_pos rfl

/-! Names, the mark taken away. -/
theorem nm_zero (l : List UInt8) : nmFrom 1 l = l.all nameC := by
  have key : ∀ (l : List UInt8) (k : Nat), nmFrom (k + 1) l = l.all nameC := by
    intro l
    induction l with
    | nil => intro k; rfl
    | cons c r ih =>
      intro k
      show (okB (k + 1) c && nmFrom (k + 1 + 1) r) = (nameC c && r.all nameC)
      rw [ih (k + 1)]
      have : okB (k + 1) c = nameC c := by unfold okB; rw [decide_eq_false (Nat.succ_ne_zero k), Bool.and_false, Bool.or_false]
      rw [this]
  exact key l 0
/-- The mark at the first place taken away. -/
def noMark (l : List UInt8) : List UInt8 := match l with | 33 :: r => r | l => l
theorem trim_mark : ∀ l : List UInt8, Lib.trimPrefix l [33] = noMark l
  | [] => rfl
  | c :: r => by
    unfold Lib.trimPrefix noMark
    by_cases h : c = 33
    · subst h; rfl
    · have e : Lib.hasPrefix (c :: r) [33] = false := by
        show ([33] : List UInt8).isPrefixOf (c :: r) = false
        show ((33 : UInt8) == c && _) = false
        rw [beq_false_of_ne (fun e => h e.symm), Bool.false_and]
      rw [e]
      show c :: r = _
      split
      · rename_i r' heq; exact absurd (List.cons.inj heq).1 h
      · rfl
theorem name_mark (l : List UInt8) : isName l = ((noMark l).all nameC && (decide (1 ≤ l.length) && decide (l.length ≤ 20))) := by
  unfold isName
  cases l with
  | nil => rfl
  | cons c r =>
    congr 1
    show (okB 0 c && nmFrom 1 r) = _
    rw [nm_zero]
    unfold noMark
    split
    · rename_i r' heq
      obtain ⟨rfl, rfl⟩ := List.cons.inj heq
      rw [show okB 0 33 = true from by decide, Bool.true_and]
    · rename_i l' hne
      have h33 : c ≠ 33 := fun e => hne r (by rw [e])
      have : okB 0 c = nameC c := by
        unfold okB
        rw [decide_eq_false (show ¬ c.toNat = 33 from fun e => h33 (UInt8.toNat_inj.1 e)), Bool.false_and, Bool.or_false]
      rw [this]; rfl
theorem noMark_len (l : List UInt8) : (noMark l).length ≤ l.length := by
  unfold noMark
  split
  · exact Nat.le_succ _
  · exact Nat.le_refl _

/-! A line may be. -/
theorem lineIn_sgn (x : Ln) : lineIn x = ((isName x.1.1 && isName x.1.2) && !(sgnR x.2 == 0)) := by
  unfold lineIn lineOk
  cases h : isR x.2 with
  | true => rw [Bool.and_true]
  | false =>
    have e : sgnR x.2 = 0 := by unfold sgnR; rw [h]; rfl
    rw [e, Bool.and_false, Bool.and_false, Bool.false_and]
    show false = (_ && false)
    rw [Bool.and_false]
theorem lineOk_may (x : Ln) : lineOk x = ((isName x.1.1 && isName x.1.2) && isR x.2) := by unfold lineOk; rw [Bool.and_assoc]

/-! A place found by halves. -/
/-- How many lines stand ahead of k. -/
def rank (ls : List Ln) (k : Key) : Nat := ls.countP fun x => aheadK x.1 k
theorem rank_parts {A M C : List Ln} {k : Key} (hA : ∀ x ∈ A, aheadK x.1 k = true) (hC : ∀ x ∈ C, aheadK k x.1 = true) (hM : M = [] ∨ ∃ p, M = [(k, p)]) : rank (A ++ (M ++ C)) k = A.length := by
  have hc : C.countP (fun x => aheadK x.1 k) = 0 := List.countP_eq_zero.2 fun x hx => by rw [ahead_asym (hC x hx)]; decide
  unfold rank
  rw [List.countP_append, List.countP_append, List.countP_eq_length.2 hA, hc]
  rcases hM with rfl | ⟨p, rfl⟩
  · rfl
  · rw [List.countP_eq_zero.2 fun x hx => by obtain rfl := List.mem_singleton.1 hx; rw [ahead_irrefl]; decide]
    rfl
/-- What stands ahead stands ahead of what does not. -/
theorem ahead_mono {ls : List Ln} (h : ls.Pairwise fun x y => aheadK x.1 y.1 = true) {k : Key} {i j : Nat} {x y : Ln} (hij : i ≤ j) (hx : ls[i]? = some x) (hy : ls[j]? = some y) (ha : aheadK y.1 k = true) : aheadK x.1 k = true := by
  rcases Nat.lt_or_eq_of_le hij with c | c
  · obtain ⟨hi, rfl⟩ := List.getElem?_eq_some_iff.1 hx
    obtain ⟨hj, rfl⟩ := List.getElem?_eq_some_iff.1 hy
    exact ahead_trans (List.pairwise_iff_getElem.1 h i j hi hj c) ha
  · subst c; rw [hx] at hy; obtain rfl := Option.some.inj hy; exact ha
/-- Between the two bounds nothing is left: that is the rank. -/
theorem rank_bound {ls : List Ln} {k : Key} {i : Nat} (hi : i ≤ ls.length) (h1 : ∀ t x, t < i → ls[t]? = some x → aheadK x.1 k = true) (h2 : ∀ t x, i ≤ t → ls[t]? = some x → aheadK x.1 k = false) : i = rank ls k := by
  unfold rank
  have e : ls.take i ++ ls.drop i = ls := List.take_append_drop _ _
  rw [← e, List.countP_append]
  rw [List.countP_eq_length.2 fun x hx => by
    obtain ⟨t, ht⟩ := List.mem_iff_getElem?.1 hx
    have hlt : t < i := by
      have := (List.getElem?_eq_some_iff.1 ht).1
      rw [List.length_take] at this; omega
    rw [List.getElem?_take_of_lt hlt] at ht
    exact h1 t x hlt ht]
  rw [List.countP_eq_zero.2 fun x hx => by
    obtain ⟨t, ht⟩ := List.mem_iff_getElem?.1 hx
    rw [List.getElem?_drop] at ht
    rw [h2 (i + t) x (by omega) ht]; decide]
  rw [List.length_take]; omega
theorem rank_le (ls : List Ln) (k : Key) : rank ls k ≤ ls.length := List.countP_le_length
/-- Is the line at the place that of k? -/
def thereB (ls : List Ln) (k : Key) : Bool := match ls[rank ls k]? with | some x => x.1 == k | none => false
/-- A good row, by its place: what is ahead, that of k, what is behind. -/
theorem place {ls : List Ln} (h : ls.Pairwise fun x y => aheadK x.1 y.1 = true) (k : Key) :
    (thereB ls k = true ∧ ∃ p, ls[rank ls k]? = some (k, p) ∧ lineOf ls k = some (k, p) ∧ ∀ q, putB ls k q = ls.take (rank ls k) ++ ((if sgnR q == 0 then [] else [(k, q)]) ++ ls.drop (rank ls k + 1))) ∨
    (thereB ls k = false ∧ lineOf ls k = none ∧ ∀ q, putB ls k q = ls.take (rank ls k) ++ ((if sgnR q == 0 then [] else [(k, q)]) ++ ls.drop (rank ls k))) := by
  obtain ⟨A, M, C, rfl, hA, hC, hM⟩ := parts h k
  have hr := rank_parts hA hC hM
  have nA : lineOf A k = none := of_none fun x hx => ahead_ne (hA x hx)
  have nC : lineOf C k = none := of_none fun x hx => (ahead_ne (hC x hx)).symm
  rcases hM with rfl | ⟨p, rfl⟩
  · right
    refine ⟨?_, ?_, fun q => ?_⟩
    · unfold thereB
      rw [hr, List.nil_append, List.getElem?_append_right (Nat.le_refl _), Nat.sub_self]
      cases C with
      | nil => rfl
      | cons y r => exact beq_false_of_ne (ahead_ne (hC y (List.mem_cons_self ..))).symm
    · rw [of_append, of_append, nA, nC]; rfl
    · rw [put_parts q hA hC (.inl rfl), hr, List.take_left, List.drop_left]; rfl
  · left
    refine ⟨?_, p, ?_, ?_, fun q => ?_⟩
    · unfold thereB
      rw [hr, List.getElem?_append_right (Nat.le_refl _), Nat.sub_self]
      exact beq_self_eq_true k
    · rw [hr, List.getElem?_append_right (Nat.le_refl _), Nat.sub_self]; rfl
    · rw [of_append, of_append, nA]
      have : lineOf [(k, p)] k = some (k, p) := by unfold lineOf; rw [List.find?_cons, beq_self_eq_true]
      rw [this]; rfl
    · rw [put_parts q hA hC (.inr ⟨p, rfl⟩), hr, List.take_left]
      congr 2
      rw [List.drop_append, List.drop_of_length_le (Nat.le_succ _), Nat.add_sub_cancel_left]; rfl

/-! Sums by halves. -/
theorem sum_total {ls : List Ln} (h : ∀ x ∈ ls, isR x.2 = true) : sumL ls = rd (ls.foldr (fun x s => valR x.2 + s) 0) := by
  unfold sumL
  rw [zero_rd, sum_rd _ h, Rat.zero_add]
theorem addR_rd (p q : Rat) : addR (rd p) (rd q) = rd (p + q) := by unfold addR; rw [isR_rd, isR_rd, valR_rd, valR_rd]; rfl
theorem sum_halves {ls ms : List Ln} (h : ∀ x ∈ ls, isR x.2 = true) (k : ∀ x ∈ ms, isR x.2 = true) : addR (sumL ls) (sumL ms) = sumL (ls ++ ms) := by
  rw [sum_total h, sum_total k, sum_total fun x hx => (List.mem_append.1 hx).elim (h x) (k x), addR_rd, List.foldr_append, foldr_more ls (List.foldr _ 0 ms)]
theorem sum_one {x : Ln} (h : isR x.2 = true) : sumL [x] = x.2 := by
  rw [sum_total fun y hy => List.mem_singleton.1 hy ▸ h]
  show rd (valR x.2 + 0) = x.2
  rw [Rat.add_zero, rd_valR h]
theorem add_zero_left {q : Key} (h : isR q = true) : addR ([48], [49]) q = q := by
  rw [zero_rd]; unfold addR; rw [isR_rd, h, valR_rd]
  show rd (0 + valR q) = q
  rw [Rat.zero_add, rd_valR h]
end Go.Proofs.YtamibckbebifkaaGreatDoor
