/- Plain books: lines by account and asset, none twice, none of 0. Own work; no program text. -/
import Derived.Test.YtamibckbebifkaaGreatDoorRatNum2
namespace Go.Proofs.YtamibckbebifkaaGreatDoor

/-- Account and asset; a fraction's texts. A line is both. -/
abbrev Key := List UInt8 × List UInt8
abbrev Ln := Key × Key

/-! Names. -/
def nameC (c : UInt8) : Bool := (decide (97 ≤ c.toNat) && decide (c.toNat ≤ 122)) || (decide (48 ≤ c.toNat) && decide (c.toNat ≤ 57))
def okB (i : Nat) (c : UInt8) : Bool := nameC c || (decide (c.toNat = 33) && decide (i = 0))
def nmFrom : Nat → List UInt8 → Bool
  | _, [] => true
  | k, c :: r => okB k c && nmFrom (k + 1) r
def isName (l : List UInt8) : Bool := nmFrom 0 l && (decide (1 ≤ l.length) && decide (l.length ≤ 20))
theorem nmFrom_append : ∀ (k : Nat) (l m : List UInt8), nmFrom k (l ++ m) = (nmFrom k l && nmFrom (k + l.length) m)
  | _, [], _ => rfl
  | k, c :: r, m => by
    show (okB k c && nmFrom (k + 1) (r ++ m)) = ((okB k c && nmFrom (k + 1) r) && nmFrom (k + (r.length + 1)) m)
    rw [nmFrom_append (k + 1) r m, Bool.and_assoc, show k + 1 + r.length = k + (r.length + 1) by omega]
theorem nm_step {l : List UInt8} {i : Nat} (h : i < l.length) : nmFrom 0 (l.take (i + 1)) = (nmFrom 0 (l.take i) && okB i l[i]) := by
  rw [List.take_add_one, List.getElem?_eq_getElem h, nmFrom_append]
  have e : (l.take i).length = i := by rw [List.length_take]; omega
  rw [e, Nat.zero_add]
  show (_ && (okB i l[i] && true)) = _
  rw [Bool.and_true]
theorem nm_stop {l : List UInt8} {i : Nat} (h : i < l.length) (hb : okB i l[i] = false) : isName l = false := by
  have e : l = l.take (i + 1) ++ l.drop (i + 1) := (List.take_append_drop _ _).symm
  unfold isName
  rw [e, nmFrom_append, nm_step h, hb, Bool.and_false, Bool.false_and, Bool.false_and]
theorem nm_all {l : List UInt8} (h : nmFrom 0 (l.take l.length) = true) : isName l = (decide (1 ≤ l.length) && decide (l.length ≤ 20)) := by
  unfold isName
  rw [List.take_length] at h
  rw [h, Bool.true_and]

/-! The order of texts. -/
theorem less_irrefl : ∀ l : List UInt8, Op.bytesLess l l = false
  | [] => rfl
  | a :: r => by
    have h := less_irrefl r
    show (decide (a < a) || (a == a && Op.bytesLess r r)) = false
    rw [h, Bool.and_false, Bool.or_false]
    exact decide_eq_false (by rw [UInt8.lt_iff_toNat_lt]; omega)
theorem less_nil (a : List UInt8) : Op.bytesLess a [] = false := by cases a <;> rfl
theorem less_trans : ∀ {a b c : List UInt8}, Op.bytesLess a b = true → Op.bytesLess b c = true → Op.bytesLess a c = true
  | _, [], _, h, _ => by rw [less_nil] at h; cases h
  | _, _ :: _, [], _, h => by rw [less_nil] at h; cases h
  | [], _ :: _, _ :: _, _, _ => rfl
  | x :: a, y :: b, z :: c, h, k => by
    have h : (decide (x < y) || (x == y && Op.bytesLess a b)) = true := h
    have k : (decide (y < z) || (y == z && Op.bytesLess b c)) = true := k
    show (decide (x < z) || (x == z && Op.bytesLess a c)) = true
    simp only [Bool.or_eq_true, Bool.and_eq_true, decide_eq_true_eq, beq_iff_eq] at h k ⊢
    rcases h with h | ⟨h, h'⟩ <;> rcases k with k | ⟨k, k'⟩
    · left; rw [UInt8.lt_iff_toNat_lt] at *; omega
    · left; subst k; exact h
    · left; subst h; exact k
    · right; exact ⟨h.trans k, less_trans h' k'⟩
theorem less_cases : ∀ a b : List UInt8, Op.bytesLess a b = true ∨ a = b ∨ Op.bytesLess b a = true
  | [], [] => .inr (.inl rfl)
  | [], _ :: _ => .inl rfl
  | _ :: _, [] => .inr (.inr rfl)
  | x :: a, y :: b => by
    show (decide (x < y) || (x == y && Op.bytesLess a b)) = true ∨ x :: a = y :: b ∨ (decide (y < x) || (y == x && Op.bytesLess b a)) = true
    simp only [Bool.or_eq_true, Bool.and_eq_true, decide_eq_true_eq, beq_iff_eq]
    by_cases h : x < y
    · exact .inl (.inl h)
    · by_cases h2 : y < x
      · exact .inr (.inr (.inl h2))
      · have e : x = y := by
          rw [UInt8.lt_iff_toNat_lt] at h h2
          exact UInt8.toNat_inj.1 (by omega)
        subst e
        rcases less_cases a b with k | k | k
        · exact .inl (.inr ⟨rfl, k⟩)
        · subst k; exact .inr (.inl rfl)
        · exact .inr (.inr (.inr ⟨rfl, k⟩))
/-- One account and asset ahead of another one. -/
def aheadK (a b : Key) : Bool := Op.bytesLess a.1 b.1 || (a.1 == b.1 && Op.bytesLess a.2 b.2)
theorem ahead_irrefl (a : Key) : aheadK a a = false := by unfold aheadK; rw [less_irrefl, less_irrefl, Bool.and_false]; rfl
theorem ahead_trans {a b c : Key} (h : aheadK a b = true) (k : aheadK b c = true) : aheadK a c = true := by
  unfold aheadK at *
  simp only [Bool.or_eq_true, Bool.and_eq_true, beq_iff_eq] at h k ⊢
  rcases h with h | ⟨h, h'⟩ <;> rcases k with k | ⟨k, k'⟩
  · exact .inl (less_trans h k)
  · exact .inl (k ▸ h)
  · exact .inl (h ▸ k)
  · exact .inr ⟨h.trans k, less_trans h' k'⟩
theorem ahead_cases (a b : Key) : aheadK a b = true ∨ a = b ∨ aheadK b a = true := by
  unfold aheadK
  simp only [Bool.or_eq_true, Bool.and_eq_true, beq_iff_eq]
  rcases less_cases a.1 b.1 with h | h | h
  · exact .inl (.inl h)
  · rcases less_cases a.2 b.2 with k | k | k
    · exact .inl (.inr ⟨h, k⟩)
    · exact .inr (.inl (Prod.ext h k))
    · exact .inr (.inr (.inr ⟨h.symm, k⟩))
  · exact .inr (.inr (.inl h))
theorem ahead_asym {a b : Key} (h : aheadK a b = true) : aheadK b a = false := by
  cases e : aheadK b a with
  | false => rfl
  | true => have := ahead_trans h e; rw [ahead_irrefl] at this; cases this
theorem ahead_ne {a b : Key} (h : aheadK a b = true) : a ≠ b := fun e => by rw [e, ahead_irrefl] at h; cases h

/-! Books. -/
def lineOk (x : Ln) : Bool := isName x.1.1 && (isName x.1.2 && isR x.2)
def lineIn (x : Ln) : Bool := lineOk x && !(sgnR x.2 == 0)
/-- What is asked of the line at a place. -/
def okAt (ls : List Ln) (j : Nat) : Bool := match ls[j]? with
  | some x => lineIn x && (decide (j = 0) || (match ls[j - 1]? with | some y => aheadK y.1 x.1 | none => false))
  | none => true
def mayB (ls : List Ln) : Bool := (List.range ls.length).all (okAt ls)
/-- A book that may be. -/
def Good (ls : List Ln) : Prop := (∀ x ∈ ls, lineIn x = true) ∧ ls.Pairwise fun x y => aheadK x.1 y.1 = true
theorem mayB_iff {ls : List Ln} : mayB ls = true ↔ ∀ j, j < ls.length → okAt ls j = true := by
  unfold mayB
  rw [List.all_eq_true]
  exact ⟨fun h j hj => h j (List.mem_range.2 hj), fun h j hj => h j (List.mem_range.1 hj)⟩
theorem mayB_stop {ls : List Ln} {j : Nat} (hj : j < ls.length) (h : okAt ls j = false) : mayB ls = false := by
  cases e : mayB ls with
  | false => rfl
  | true => rw [mayB_iff.1 e j hj] at h; cases h
theorem chain_pair : ∀ {ls : List Ln}, (∀ j x y, ls[j]? = some x → ls[j + 1]? = some y → aheadK x.1 y.1 = true) → ls.Pairwise fun x y => aheadK x.1 y.1 = true
  | [], _ => List.Pairwise.nil
  | [x], _ => List.pairwise_singleton _ _
  | x :: y :: r, h => by
    have h1 : aheadK x.1 y.1 = true := h 0 x y rfl rfl
    have h2 : (y :: r).Pairwise fun x y => aheadK x.1 y.1 = true := chain_pair fun j u v hu hv => h (j + 1) u v hu hv
    refine List.Pairwise.cons (fun z hz => ?_) h2
    rcases List.mem_cons.1 hz with rfl | hz
    · exact h1
    · exact ahead_trans h1 ((List.pairwise_cons.1 h2).1 z hz)
theorem good_iff {ls : List Ln} : mayB ls = true ↔ Good ls := by
  rw [mayB_iff]
  constructor
  · intro h
    constructor
    · intro x hx
      obtain ⟨j, hj, e⟩ := List.getElem_of_mem hx
      have k := h j hj
      unfold okAt at k
      rw [List.getElem?_eq_getElem hj] at k
      simp only [Bool.and_eq_true] at k
      rw [e] at k
      exact k.1
    · refine chain_pair fun j x y hx hy => ?_
      obtain ⟨hj, e⟩ := List.getElem?_eq_some_iff.1 hy
      have k := h (j + 1) hj
      unfold okAt at k
      rw [hy] at k
      simp only [Bool.and_eq_true, Nat.add_sub_cancel, hx] at k
      rcases Bool.or_eq_true_iff.1 k.2 with k | k
      · exact absurd (of_decide_eq_true k) (by omega)
      · exact k
  · rintro ⟨h1, h2⟩ j hj
    unfold okAt
    rw [List.getElem?_eq_getElem hj]
    simp only [Bool.and_eq_true]
    refine ⟨h1 _ (List.getElem_mem hj), ?_⟩
    by_cases h0 : j = 0
    · rw [decide_eq_true h0]; rfl
    · rw [decide_eq_false h0, Bool.false_or, List.getElem?_eq_getElem (by omega)]
      exact List.pairwise_iff_getElem.1 h2 (j - 1) j (by omega) hj (by omega)

/-- The line of an account and asset. -/
def lineOf (ls : List Ln) (k : Key) : Option Ln := ls.find? fun x => x.1 == k
def rawB (ls : List Ln) (k : Key) : Key := match lineOf ls k with | some x => x.2 | none => ([48], [49])
def getB (ls : List Ln) (k : Key) : Key := if mayB ls then rawB ls k else ([], [])
/-- A row of lines with that of k in its place (none, if it is laid already), and without the old one. -/
def insB : List Ln → Bool → Key → Key → List Ln
  | [], laid, k, q => if laid then [] else [(k, q)]
  | x :: r, laid, k, q => (if !laid && !aheadK x.1 k then [(k, q)] else []) ++ ((if x.1 == k then [] else [x]) ++ insB r (laid || !aheadK x.1 k) k q)
def putB (ls : List Ln) (k q : Key) : List Ln := insB ls (sgnR q == 0) k q
def addB (ls : List Ln) (x : Ln) : List Ln × Bool := if mayB ls && lineOk x then (putB ls x.1 (addR (getB ls x.1) x.2), true) else ([], false)
def holdB (ls : List Ln) (a : List UInt8) : List Ln := if mayB ls then ls.filter fun x => x.1.2 == a else []
def sumL (ls : List Ln) : Key := ls.foldl (fun s x => addR s x.2) ([48], [49])
def totB (ls : List Ln) (a : List UInt8) : Key := if mayB ls then sumL (holdB ls a) else ([], [])

/-! What a good book has of an account and asset. -/
def hasQ (ls : List Ln) (k : Key) : Rat := match lineOf ls k with | some x => valR x.2 | none => 0
theorem zero_rd : ((([48] : List UInt8), ([49] : List UInt8)) : Key) = rd 0 := by
  show (([48] : List UInt8), ([49] : List UInt8)) = (wd 0, dig 1)
  rw [wd_0, dig_1]
theorem rawB_rd {ls : List Ln} (h : ∀ x ∈ ls, lineIn x = true) (k : Key) : rawB ls k = rd (hasQ ls k) := by
  unfold rawB hasQ
  cases e : lineOf ls k with
  | none => exact zero_rd
  | some x =>
    have hx := h x (List.mem_of_find?_eq_some e)
    unfold lineIn lineOk at hx
    simp only [Bool.and_eq_true] at hx
    exact (rd_valR hx.1.2.2).symm
theorem lineIn_rat {x : Ln} (h : lineIn x = true) : isR x.2 = true ∧ valR x.2 ≠ 0 := by
  unfold lineIn lineOk at h
  simp only [Bool.and_eq_true, Bool.not_eq_true', beq_eq_false_iff_ne] at h
  refine ⟨h.1.2.2, fun e => h.2 ?_⟩
  unfold sgnR
  rw [if_pos h.1.2.2, e]
  rfl
/-- A good row falls into what is ahead of k, the line of k, and what is behind. -/
theorem parts : ∀ {ls : List Ln}, ls.Pairwise (fun x y => aheadK x.1 y.1 = true) → ∀ k : Key, ∃ A M C, ls = A ++ (M ++ C) ∧ (∀ x ∈ A, aheadK x.1 k = true) ∧ (∀ x ∈ C, aheadK k x.1 = true) ∧ (M = [] ∨ ∃ p, M = [(k, p)])
  | [], _, k => ⟨[], [], [], rfl, fun _ h => (by cases h), fun _ h => (by cases h), .inl rfl⟩
  | x :: r, h, k => by
    obtain ⟨h1, h2⟩ := List.pairwise_cons.1 h
    rcases ahead_cases x.1 k with e | e | e
    · obtain ⟨A, M, C, rfl, hA, hC, hM⟩ := parts h2 k
      refine ⟨x :: A, M, C, rfl, fun y hy => ?_, hC, hM⟩
      rcases List.mem_cons.1 hy with rfl | hy
      · exact e
      · exact hA y hy
    · refine ⟨[], [x], r, rfl, fun _ h => (by cases h), fun y hy => e ▸ h1 y hy, .inr ⟨x.2, ?_⟩⟩
      rw [← e]
    · refine ⟨[], [], x :: r, rfl, fun _ h => (by cases h), fun y hy => ?_, .inl rfl⟩
      rcases List.mem_cons.1 hy with rfl | hy
      · exact e
      · exact ahead_trans e (h1 y hy)
theorem ins_far : ∀ {C : List Ln} {k : Key} (q : Key), (∀ x ∈ C, aheadK k x.1 = true) → insB C true k q = C
  | [], _, _, _ => rfl
  | x :: r, k, q, h => by
    have e := h x (List.mem_cons_self ..)
    show (if !true && !aheadK x.1 k then [(k, q)] else []) ++ ((if x.1 == k then [] else [x]) ++ insB r (true || !aheadK x.1 k) k q) = x :: r
    rw [beq_false_of_ne (ahead_ne e).symm, Bool.true_or, ins_far q fun y hy => h y (List.mem_cons_of_mem _ hy)]
    rfl
theorem ins_near {C : List Ln} {k : Key} (q : Key) (h : ∀ x ∈ C, aheadK k x.1 = true) : insB C false k q = (k, q) :: C := by
  cases C with
  | nil => rfl
  | cons x r =>
    have e := h x (List.mem_cons_self ..)
    show (if !false && !aheadK x.1 k then [(k, q)] else []) ++ ((if x.1 == k then [] else [x]) ++ insB r (false || !aheadK x.1 k) k q) = (k, q) :: x :: r
    rw [beq_false_of_ne (ahead_ne e).symm, ahead_asym e, show (false || !false) = true from rfl, ins_far q fun y hy => h y (List.mem_cons_of_mem _ hy)]
    rfl
theorem ins_ahead : ∀ {A : List Ln} {k : Key} (q : Key) (laid : Bool) (D : List Ln), (∀ x ∈ A, aheadK x.1 k = true) → insB (A ++ D) laid k q = A ++ insB D laid k q
  | [], _, _, _, _, _ => rfl
  | x :: r, k, q, laid, D, h => by
    have e := h x (List.mem_cons_self ..)
    show (if !laid && !aheadK x.1 k then [(k, q)] else []) ++ ((if x.1 == k then [] else [x]) ++ insB (r ++ D) (laid || !aheadK x.1 k) k q) = x :: (r ++ insB D laid k q)
    rw [beq_false_of_ne (ahead_ne e), e, show (!true) = false from rfl, Bool.and_false, Bool.or_false, ins_ahead q laid D fun y hy => h y (List.mem_cons_of_mem _ hy)]
    rfl
/-- The line of k in its place. -/
theorem put_parts {A M C : List Ln} {k : Key} (q : Key) (hA : ∀ x ∈ A, aheadK x.1 k = true) (hC : ∀ x ∈ C, aheadK k x.1 = true) (hM : M = [] ∨ ∃ p, M = [(k, p)]) :
    putB (A ++ (M ++ C)) k q = A ++ ((if sgnR q == 0 then [] else [(k, q)]) ++ C) := by
  unfold putB
  rw [ins_ahead q _ _ hA]
  congr 1
  rcases hM with rfl | ⟨p, rfl⟩
  · rw [List.nil_append]
    cases e : sgnR q == 0 with
    | true => rw [ins_far q hC]; rfl
    | false => rw [ins_near q hC]; rfl
  · show (if !(sgnR q == 0) && !aheadK k k then [(k, q)] else []) ++ ((if k == k then [] else [(k, p)]) ++ insB C ((sgnR q == 0) || !aheadK k k) k q) = _
    rw [ahead_irrefl, beq_self_eq_true, show (!false) = true from rfl, Bool.and_true, Bool.or_true, ins_far q hC]
    cases sgnR q == 0 <;> rfl
theorem sgnR_zero {q : Key} (h : isR q = true) : (sgnR q == 0) = true ↔ valR q = 0 := by
  unfold sgnR
  rw [if_pos h, beq_iff_eq, sgnQ_eq_zero]
theorem pair_app {R : Ln → Ln → Prop} {A B : List Ln} : (A ++ B).Pairwise R ↔ A.Pairwise R ∧ B.Pairwise R ∧ ∀ a ∈ A, ∀ b ∈ B, R a b := List.pairwise_append
/-- A good row stays so. -/
theorem put_good {ls : List Ln} {k q : Key} (h : Good ls) (hk : lineOk (k, q) = true) : Good (putB ls k q) := by
  obtain ⟨h1, h2⟩ := h
  obtain ⟨A, M, C, rfl, hA, hC, hM⟩ := parts h2 k
  rw [put_parts q hA hC hM]
  obtain ⟨p1, p2, p3⟩ := pair_app.1 h2
  obtain ⟨p4, p5, p6⟩ := pair_app.1 p2
  have hAC : ∀ a ∈ A, ∀ b ∈ C, aheadK a.1 b.1 = true := fun a ha b hb => ahead_trans (hA a ha) (hC b hb)
  cases e : sgnR q == 0 with
  | true =>
    refine ⟨fun x hx => h1 x ?_, pair_app.2 ⟨p1, p5, hAC⟩⟩
    rcases List.mem_append.1 hx with hx | hx
    · exact List.mem_append.2 (.inl hx)
    · exact List.mem_append.2 (.inr (List.mem_append.2 (.inr hx)))
  | false =>
    constructor
    · intro x hx
      rcases List.mem_append.1 hx with hx | hx
      · exact h1 x (List.mem_append.2 (.inl hx))
      · rcases List.mem_append.1 hx with hx | hx
        · obtain rfl := List.mem_singleton.1 hx
          unfold lineIn
          rw [hk]
          show (true && !(sgnR q == 0)) = true
          rw [e]; rfl
        · exact h1 x (List.mem_append.2 (.inr (List.mem_append.2 (.inr hx))))
    · refine pair_app.2 ⟨p1, pair_app.2 ⟨List.pairwise_singleton _ _, p5, fun a ha b hb => ?_⟩, fun a ha b hb => ?_⟩
      · obtain rfl := List.mem_singleton.1 ha
        exact hC b hb
      · rcases List.mem_append.1 hb with hb | hb
        · obtain rfl := List.mem_singleton.1 hb
          exact hA a ha
        · exact hAC a ha b hb
theorem of_some {ls : List Ln} {k : Key} {x : Ln} (h : lineOf ls k = some x) : x ∈ ls ∧ x.1 = k := by
  unfold lineOf at h
  have e := List.find?_some h
  exact ⟨List.mem_of_find?_eq_some h, eq_of_beq e⟩
theorem of_none {A : List Ln} {k : Key} (h : ∀ x ∈ A, x.1 ≠ k) : lineOf A k = none := List.find?_eq_none.2 fun x hx => by
  rw [beq_iff_eq]; exact h x hx
theorem of_append (A B : List Ln) (k : Key) : lineOf (A ++ B) k = (lineOf A k).or (lineOf B k) := List.find?_append
theorem put_has {ls : List Ln} {k q : Key} (h : ls.Pairwise fun x y => aheadK x.1 y.1 = true) (hq : isR q = true) (m : Key) : hasQ (putB ls k q) m = if m = k then valR q else hasQ ls m := by
  obtain ⟨A, M, C, rfl, hA, hC, hM⟩ := parts h k
  rw [put_parts q hA hC hM]
  have nA : lineOf A k = none := of_none fun x hx => ahead_ne (hA x hx)
  have nC : lineOf C k = none := of_none fun x hx => (ahead_ne (hC x hx)).symm
  unfold hasQ
  rw [of_append, of_append, of_append, of_append]
  by_cases e : m = k
  · subst e
    rw [if_pos rfl, nA, nC, Option.or_none, Option.none_or]
    cases z : sgnR q == 0 with
    | true => exact ((sgnR_zero hq).1 z).symm
    | false =>
      have : lineOf [(m, q)] m = some (m, q) := by unfold lineOf; rw [List.find?_cons, beq_self_eq_true]
      show (match lineOf [(m, q)] m with | some x => valR x.2 | none => 0) = _
      rw [this]
  · have n1 : ∀ p, lineOf [(k, p)] m = none := fun p => of_none fun x hx => by
      obtain rfl := List.mem_singleton.1 hx
      exact fun h => e h.symm
    rw [if_neg e]
    have n2 : lineOf M m = none := by
      rcases hM with rfl | ⟨p, rfl⟩
      · rfl
      · exact n1 p
    have n3 : lineOf (if sgnR q == 0 then [] else [(k, q)]) m = none := by
      cases sgnR q == 0
      · exact n1 q
      · rfl
    rw [n2, n3]
/-- A good row is told by what it has. -/
theorem good_ext : ∀ {ls ms : List Ln}, Good ls → Good ms → (∀ k, hasQ ls k = hasQ ms k) → ls = ms := by
  have key : ∀ {ls ms : List Ln}, Good ls → Good ms → (∀ k, hasQ ls k = hasQ ms k) → ∀ x ∈ ls, x ∈ ms := by
    intro ls ms hl hm h x hx
    have one : ∀ {ls : List Ln}, Good ls → ∀ y ∈ ls, lineOf ls y.1 = some y := by
      intro ls hl y hy
      cases e : lineOf ls y.1 with
      | none => exact absurd (List.find?_eq_none.1 e y hy) (by simp)
      | some z =>
        have hz := List.mem_of_find?_eq_some e
        have ez : z.1 = y.1 := (of_some e).2
        obtain ⟨i, hi, rfl⟩ := List.getElem_of_mem hz
        obtain ⟨j, hj, rfl⟩ := List.getElem_of_mem hy
        have : i = j := by
          rcases Nat.lt_trichotomy i j with c | c | c
          · exact absurd ez (ahead_ne (List.pairwise_iff_getElem.1 hl.2 i j hi hj c))
          · exact c
          · exact absurd ez.symm (ahead_ne (List.pairwise_iff_getElem.1 hl.2 j i hj hi c))
        subst this
        rfl
    have hq := lineIn_rat (hl.1 x hx)
    have e := h x.1
    unfold hasQ at e
    rw [one hl x hx] at e
    have e : valR x.2 = _ := e
    cases k : lineOf ms x.1 with
    | none => rw [k] at e; exact absurd e hq.2
    | some z =>
      rw [k] at e
      have hz := List.mem_of_find?_eq_some k
      have ez : z.1 = x.1 := (of_some k).2
      have e : valR x.2 = valR z.2 := e
      have e2 : x.2 = z.2 := by rw [← rd_valR hq.1, e, rd_valR (lineIn_rat (hm.1 z hz)).1]
      have : x = z := Prod.ext ez.symm e2
      rw [this]; exact hz
  intro ls ms hl hm h
  have sub := key hl hm h
  have sup := key hm hl fun k => (h k).symm
  have ext : ∀ {ls ms : List Ln}, ls.Pairwise (fun x y => aheadK x.1 y.1 = true) → ms.Pairwise (fun x y => aheadK x.1 y.1 = true) → (∀ x, x ∈ ls ↔ x ∈ ms) → ls = ms := by
    intro ls
    induction ls with
    | nil =>
      intro ms _ _ h
      cases ms with
      | nil => rfl
      | cons y r => exact absurd ((h y).2 (List.mem_cons_self ..)) (by simp)
    | cons x r ih =>
      intro ms h1 h2 h
      cases ms with
      | nil => exact absurd ((h x).1 (List.mem_cons_self ..)) (by simp)
      | cons y t =>
        obtain ⟨a1, a2⟩ := List.pairwise_cons.1 h1
        obtain ⟨b1, b2⟩ := List.pairwise_cons.1 h2
        have exy : x = y := by
          rcases List.mem_cons.1 ((h x).1 (List.mem_cons_self ..)) with e | e
          · exact e
          · rcases List.mem_cons.1 ((h y).2 (List.mem_cons_self ..)) with e' | e'
            · exact e'.symm
            · have := ahead_trans (a1 y e') (b1 x e)
              rw [ahead_irrefl] at this; cases this
        subst exy
        congr 1
        refine ih a2 b2 fun z => ?_
        constructor
        · intro hz
          rcases List.mem_cons.1 ((h z).1 (List.mem_cons_of_mem _ hz)) with e | e
          · subst e; exact absurd (a1 z hz) (by rw [ahead_irrefl]; decide)
          · exact e
        · intro hz
          rcases List.mem_cons.1 ((h z).2 (List.mem_cons_of_mem _ hz)) with e | e
          · subst e; exact absurd (b1 z hz) (by rw [ahead_irrefl]; decide)
          · exact e
  exact ext hl.2 hm.2 fun x => ⟨sub x, sup x⟩

/-! Totals. -/
def totQ (ls : List Ln) (a : List UInt8) : Rat := (ls.filter fun x => x.1.2 == a).foldr (fun x s => valR x.2 + s) 0
theorem foldr_more : ∀ (L : List Ln) (s : Rat), L.foldr (fun x s => valR x.2 + s) s = L.foldr (fun x s => valR x.2 + s) 0 + s
  | [], s => (Rat.zero_add s).symm
  | x :: r, s => by
    show valR x.2 + r.foldr _ s = valR x.2 + r.foldr _ 0 + s
    rw [foldr_more r s, Rat.add_assoc]
theorem totQ_append (A B : List Ln) (a : List UInt8) : totQ (A ++ B) a = totQ A a + totQ B a := by
  unfold totQ
  rw [List.filter_append, List.foldr_append]
  exact foldr_more _ _
theorem totQ_one (k p : Key) (a : List UInt8) : totQ [(k, p)] a = if k.2 = a then valR p else 0 := by
  unfold totQ
  by_cases h : k.2 = a
  · rw [if_pos h, List.filter_cons_of_pos (by simpa using h)]
    show valR p + 0 = _
    grind
  · rw [if_neg h, List.filter_cons_of_neg (by simpa using h)]
    rfl
theorem put_tot {ls : List Ln} {k q : Key} (h : ls.Pairwise fun x y => aheadK x.1 y.1 = true) (hq : isR q = true) (a : List UInt8) :
    totQ (putB ls k q) a = totQ ls a + if k.2 = a then valR q - hasQ ls k else 0 := by
  have hh := h
  obtain ⟨A, M, C, rfl, hA, hC, hM⟩ := parts h k
  rw [put_parts q hA hC hM, totQ_append, totQ_append, totQ_append, totQ_append]
  have nA : lineOf A k = none := of_none fun x hx => ahead_ne (hA x hx)
  have nC : lineOf C k = none := of_none fun x hx => (ahead_ne (hC x hx)).symm
  have e1 : totQ (if sgnR q == 0 then [] else [(k, q)]) a = if k.2 = a then valR q else 0 := by
    cases z : sgnR q == 0 with
    | true =>
      rw [(sgnR_zero hq).1 z]
      show (0 : Rat) = _
      split <;> rfl
    | false => exact totQ_one k q a
  have e2 : totQ M a = if k.2 = a then hasQ (A ++ (M ++ C)) k else 0 := by
    unfold hasQ
    rw [of_append, of_append, nA, nC, Option.or_none, Option.none_or]
    rcases hM with rfl | ⟨p, rfl⟩
    · show (0 : Rat) = if k.2 = a then 0 else 0
      split <;> rfl
    · have : lineOf [(k, p)] k = some (k, p) := by unfold lineOf; rw [List.find?_cons, beq_self_eq_true]
      rw [this]
      exact totQ_one k p a
  rw [e1, e2]
  split <;> grind
theorem sum_rd : ∀ {ls : List Ln} (s : Rat), (∀ x ∈ ls, isR x.2 = true) → ls.foldl (fun s x => addR s x.2) (rd s) = rd (s + ls.foldr (fun x s => valR x.2 + s) 0)
  | [], s, _ => by show rd s = rd (s + 0); rw [Rat.add_zero]
  | x :: r, s, h => by
    have hx := h x (List.mem_cons_self ..)
    have e : addR (rd s) x.2 = rd (s + valR x.2) := by unfold addR; rw [isR_rd, hx, valR_rd]; rfl
    show r.foldl _ (addR (rd s) x.2) = rd (s + (valR x.2 + r.foldr _ 0))
    rw [e, sum_rd _ fun y hy => h y (List.mem_cons_of_mem _ hy), Rat.add_assoc]
theorem totB_rd {ls : List Ln} (h : Good ls) (a : List UInt8) : totB ls a = rd (totQ ls a) := by
  have hm := good_iff.2 h
  unfold totB holdB sumL
  rw [if_pos hm, if_pos hm, zero_rd, sum_rd]
  · unfold totQ; rw [Rat.zero_add]
  · intro x hx
    exact (lineIn_rat (h.1 x (List.mem_filter.1 hx).1)).1
theorem getB_rd {ls : List Ln} (h : Good ls) (k : Key) : getB ls k = rd (hasQ ls k) := by
  unfold getB
  rw [if_pos (good_iff.2 h), rawB_rd h.1]
/-- A line added. -/
theorem addB_no {ls : List Ln} {x : Ln} (h : (mayB ls && lineOk x) = false) : addB ls x = ([], false) := by unfold addB; rw [h]; rfl
theorem addB_yes {ls : List Ln} {x : Ln} (h : Good ls) (hx : lineOk x = true) : ∃ ms, addB ls x = (ms, true) ∧ Good ms ∧ (∀ k, hasQ ms k = hasQ ls k + if k = x.1 then valR x.2 else 0) ∧ ∀ a, totQ ms a = totQ ls a + if x.1.2 = a then valR x.2 else 0 := by
  have hr : isR x.2 = true := by unfold lineOk at hx; simp only [Bool.and_eq_true] at hx; exact hx.2.2
  have e : addR (getB ls x.1) x.2 = rd (hasQ ls x.1 + valR x.2) := by rw [getB_rd h]; unfold addR; rw [isR_rd, hr, valR_rd]; rfl
  have hok : lineOk (x.1, rd (hasQ ls x.1 + valR x.2)) = true := by
    unfold lineOk at hx ⊢
    simp only [Bool.and_eq_true] at hx ⊢
    exact ⟨hx.1, hx.2.1, isR_rd _⟩
  refine ⟨putB ls x.1 (rd (hasQ ls x.1 + valR x.2)), ?_, put_good h hok, fun k => ?_, fun a => ?_⟩
  · unfold addB; rw [good_iff.2 h, hx, e]; rfl
  · rw [put_has h.2 (isR_rd _), valR_rd]
    split
    · rename_i e; rw [e]
    · rw [Rat.add_zero]
  · rw [put_tot h.2 (isR_rd _), valR_rd]
    split <;> grind
end Go.Proofs.YtamibckbebifkaaGreatDoor
